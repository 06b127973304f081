package signal

import (
	"math"

	"woofer/api"
	"woofer/common"
)

// Cut returns a part of a record.
func Cut(r Record, from, to int) (Record, api.Errno) {
	outside := from < 0 || from > to || to > len(r.Samples)
	e := common.First(CheckRecord(r), common.When(outside, api.ErrSpan))
	if e != api.OK {
		return Record{}, e
	}
	return refilled(r, r.Samples[from:to]), api.OK
}

// Append returns a record with another one behind it.
func Append(a, b Record) (Record, api.Errno) {
	e := common.First(
		CheckRecord(a),
		CheckRecord(b),
		common.When(a.Name != b.Name || a.Rate != b.Rate, api.ErrConflict),
		common.When(len(a.Samples)+len(b.Samples) > api.MaxLength, api.ErrMany),
	)
	if e != api.OK {
		return Record{}, e
	}
	return refilled(a, a.Samples, b.Samples), api.OK
}

// Mix returns the sum of two records.
func Mix(a, b Record) (Record, api.Errno) {
	e := common.First(
		CheckRecord(a),
		CheckRecord(b),
		common.When(a.Rate != b.Rate, api.ErrConflict),
		common.When(len(a.Samples) != len(b.Samples), api.ErrShape),
	)
	if e != api.OK {
		return Record{}, e
	}
	sum := refilled(a, a.Samples)
	for i, x := range b.Samples {
		sum.Samples[i] += x
	}
	return checked(sum)
}

// Scale returns a record times a power of two.
func Scale(r Record, shift int) (Record, api.Errno) {
	e := common.First(CheckRecord(r), common.CheckRange(shift, -MaxShift, MaxShift))
	if e != api.OK {
		return Record{}, e
	}
	factor := float32(math.Ldexp(1, shift))
	scaled := refilled(r, r.Samples)
	for i := range scaled.Samples {
		scaled.Samples[i] *= factor
	}
	return checked(scaled)
}

// Delay returns a record behind so many zeros.
func Delay(r Record, n int) (Record, api.Errno) {
	e := common.First(
		CheckRecord(r),
		common.CheckRange(n, 0, api.MaxLength),
		common.When(n > api.MaxLength-len(r.Samples), api.ErrMany),
	)
	if e != api.OK {
		return Record{}, e
	}
	return refilled(r, make([]float32, n), r.Samples), api.OK
}

// refilled returns a record like r with copies of the lists, one behind the other, as its samples.
func refilled(r Record, lists ...[]float32) Record {
	n := 0
	for _, l := range lists {
		n += len(l)
	}
	r.Samples = make([]float32, n)
	at := 0
	for _, l := range lists {
		copy(r.Samples[at:], l)
		at += len(l)
	}
	return r
}

// checked returns a record that was computed, or its first error alone.
func checked(r Record) (Record, api.Errno) {
	if e := CheckRecord(r); e != api.OK {
		return Record{}, e
	}
	return r, api.OK
}
