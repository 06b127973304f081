package signal_test

import (
	"slices"
	"strings"
	"testing"

	"woofer/api"
	"woofer/signal"
)

const (
	rate48  = "\x00\x00\x00\x30"
	none    = "\x00\x00\x00\x00"
	one     = "\x00\x00\x00\x01"
	half    = "\xbf\x00\x00\x00"
	longest = "\x00\x00\x10\x00"
)

// P1.5: Encode.
func TestEncode(t *testing.T) {
	for _, x := range []struct {
		r signal.Record
		s string
	}{
		{hum(), "SNDR\x03hum" + rate48 + "\x00\x00\x00\x03\x3f\x80\x00\x00" + half + "\x40\x00\x00\x00"},
		{signal.Record{Name: "q", Rate: 192000}, "SNDR\x01q\x00\x02\xee\x00" + none},
		{signal.Record{Name: "ab", Rate: 1, Samples: []float32{minus, 0}}, "SNDR\x02ab" + one + "\x00\x00\x00\x02" + none + none},
		{signal.Record{Name: "c", Rate: 48, Samples: []float32{-2048, 0.0625, 2047.9375}}, "SNDR\x01c" + rate48 + "\x00\x00\x00\x03\xc5\x00\x00\x00\x3d\x80\x00\x00\x44\xff\xfe\x00"},
		{signal.Record{Name: strings.Repeat("q", 24), Rate: 48}, "SNDR\x18" + strings.Repeat("q", 24) + rate48 + none},
		{signal.Record{Name: "d", Rate: 48, Samples: make([]float32, 4096)}, "SNDR\x01d" + rate48 + longest + strings.Repeat(none, 4096)},
	} {
		s, e := signal.Encode(x.r)
		equal(t, "Encode", e, api.OK)
		equal(t, "Encode", string(s), x.s)
	}
	for _, x := range wrongRecords() {
		s, e := signal.Encode(x.r)
		equal(t, "Encode: "+x.what, e, x.e)
		equal(t, "Encode: "+x.what, len(s), 0)
	}
}

// P1.5: Decode of streams.
func TestDecode(t *testing.T) {
	for _, x := range []struct {
		s string
		r signal.Record
	}{
		{"SNDR\x03hum" + rate48 + "\x00\x00\x00\x03\x3f\x80\x00\x00" + half + "\x40\x00\x00\x00", hum()},
		{"SNDR\x01q\x00\x02\xee\x00" + none, signal.Record{Name: "q", Rate: 192000}},
		{"SNDR\x01c" + rate48 + "\x00\x00\x00\x03\xc5\x00\x00\x00\x3d\x80\x00\x00\x44\xff\xfe\x00", signal.Record{Name: "c", Rate: 48, Samples: []float32{-2048, 0.0625, 2047.9375}}},
		{"SNDR\x01d" + rate48 + longest + strings.Repeat(half, 4096), signal.Record{Name: "d", Rate: 48, Samples: repeated(float32(-0.5), 4096)}},
	} {
		r, e := signal.Decode([]byte(x.s))
		equal(t, "Decode", e, api.OK)
		equalRecord(t, "Decode", r, x.r)
	}
}

// P1.5: the errors of Decode, and their order.
func TestDecodeErrors(t *testing.T) {
	const head = "SNDR\x01a" + rate48
	const minusZero = "\x80\x00\x00\x00"
	const quiet = "\x7f\xc0\x00\x00"
	for _, x := range []struct {
		what string
		s    string
		e    api.Errno
	}{
		{"nothing", "", api.ErrTorn},
		{"4 bytes", "SNDR", api.ErrTorn},
		{"4 other bytes", "SNDX", api.ErrTorn},
		{"5 other bytes", "SNDX\x01", api.ErrForm},
		{"another first byte", "sNDR\x01a" + rate48 + none, api.ErrForm},
		{"no name", "SNDR\x01", api.ErrTorn},
		{"no numbers", "SNDR\x00", api.ErrTorn},
		{"a part of the name", "SNDR\x09abcdefgh", api.ErrTorn},
		{"a byte of the numbers missing", "SNDR\x03hum" + rate48 + "\x00\x00\x00", api.ErrTorn},
		{"one sample missing", head + one, api.ErrTorn},
		{"a byte missing", head + one + "\x3f\x80\x00", api.ErrTorn},
		{"more samples than a stream can have", head + "\xff\xff\xff\xff" + half, api.ErrTorn},
		{"four times the number is 0 in 32 bits", head + "\x40\x00\x00\x00", api.ErrTorn},
		{"the number is negative in 32 bits", head + "\x80\x00\x00\x00", api.ErrTorn},
		{"a byte more", head + none + "\x00", api.ErrShape},
		{"a sample more", head + one + half + half, api.ErrShape},
		{"shape before form", head + one + minusZero + "\x00", api.ErrShape},
		{"-0", head + one + minusZero, api.ErrForm},
		{"-0 behind others", head + "\x00\x00\x00\x02" + half + minusZero, api.ErrForm},
		{"-0 before name and rate", "SNDR\x00" + none + one + minusZero, api.ErrForm},
		{"-0 before range", head + "\x00\x00\x00\x02" + "\x3d\x00\x00\x00" + minusZero, api.ErrForm},
		{"-0 before many", head + "\x00\x00\x10\x01" + strings.Repeat(half, 4096) + minusZero, api.ErrForm},
		{"no bytes of a name", "SNDR\x00" + rate48 + none, api.ErrName},
		{"no name", "SNDR\x01_" + none + none, api.ErrName},
		{"name too long", "SNDR\x19" + strings.Repeat("q", 25) + rate48 + none, api.ErrName},
		{"longest length of a name", "SNDR\xff" + strings.Repeat("q", 255) + rate48 + none, api.ErrName},
		{"rate 0", "SNDR\x01a" + none + one + quiet, api.ErrRange},
		{"rate too high", "SNDR\x01a\x00\x02\xee\x01" + none, api.ErrRange},
		{"highest rate", "SNDR\x01a\xff\xff\xff\xff" + none, api.ErrRange},
		{"too many", head + "\x00\x00\x10\x01" + strings.Repeat(quiet, 4097), api.ErrMany},
		{"NaN", head + one + quiet, api.ErrForm},
		{"another NaN", head + one + "\xff\x80\x00\x01", api.ErrForm},
		{"infinite", head + one + "\x7f\x80\x00\x00", api.ErrForm},
		{"no multiple", head + one + "\x3d\x00\x00\x00", api.ErrRange},
		{"least float", head + one + "\x00\x00\x00\x01", api.ErrRange},
		{"too large", head + one + "\x45\x00\x01\x00", api.ErrRange},
	} {
		r, e := signal.Decode([]byte(x.s))
		nothing(t, "Decode: "+x.what, r, e, x.e)
	}
}

// P1.5: each begin of a stream is torn; a stream with a byte more has the wrong shape.
func TestDecodeTorn(t *testing.T) {
	s, _ := signal.Encode(hum())
	equal(t, "length", len(s), 28)
	for n := range s {
		r, e := signal.Decode(s[:n])
		nothing(t, "Decode of a begin", r, e, api.ErrTorn)
	}
	r, e := signal.Decode(append(slices.Clone(s), 0))
	nothing(t, "Decode of more", r, e, api.ErrShape)
}

// P1.5: the longest streams.
func TestDecodeLong(t *testing.T) {
	s := make([]byte, api.MaxStream+1)
	_, e := signal.Decode(s)
	equal(t, "too long", e, api.ErrLong)
	_, e = signal.Decode(s[:api.MaxStream])
	equal(t, "as long as permitted", e, api.ErrForm)
	// 14 bytes without samples: 999996 samples and 2 bytes more.
	copy(s, "SNDR\x01a"+rate48+"\x00\x0f\x42\x3c")
	_, e = signal.Decode(s[:api.MaxStream])
	equal(t, "bytes left over", e, api.ErrShape)
	_, e = signal.Decode(s[:api.MaxStream-2])
	equal(t, "many samples", e, api.ErrMany)
}

// P1.5, the rule Memory.
func TestStreamsShareNothing(t *testing.T) {
	r := hum()
	s, _ := signal.Encode(r)
	before := slices.Clone(s)
	back, _ := signal.Decode(s)
	equalList(t, "stream", s, before)
	clear(s)
	equalRecord(t, "decoded", back, hum())
	back.Samples[0] = 9
	equalRecord(t, "record", r, hum())
}
