package signal

import (
	"iter"
	"math/bits"
	"slices"

	"woofer/api"
	"woofer/common"
)

// CheckSequence returns the first error of a sequence, or OK.
func CheckSequence(l []int) api.Errno {
	if len(l) > api.MaxLength {
		return api.ErrMany
	}
	return common.When(slices.ContainsFunc(l, isBeyond), api.ErrRange)
}

// isBeyond reports whether an integer is none of a sequence.
func isBeyond(x int) bool {
	return !common.Within(x, -MaxLevel, MaxLevel)
}

// Convolve returns the convolution of two sequences.
func Convolve(a, b []int) ([]int, api.Errno) {
	e := common.First(
		CheckSequence(a),
		CheckSequence(b),
		common.When(len(a)+len(b)-1 > api.MaxLength, api.ErrMany),
	)
	if e != api.OK {
		return nil, e
	}
	sums := convolution(a, b)
	if slices.ContainsFunc(sums, isBeyond) {
		return nil, api.ErrLarge
	}
	return sums, api.OK
}

// Correlate returns the correlation of two sequences.
func Correlate(a, b []int) ([]int, api.Errno) {
	if e := CheckSequence(a); e != api.OK {
		return nil, e
	}
	return Convolve(backwards(a), b)
}

// convolution returns the convolution of lists, whose elements may be beyond those of a sequence.
func convolution(a, b []int) []int {
	if len(a) == 0 || len(b) == 0 {
		return nil
	}
	sums := make([]int, len(a)+len(b)-1)
	for k, x := range products(a, b) {
		sums[k] += x
	}
	return sums
}

// products visits each product of an element of a and one of b, with its index in the convolution.
func products(a, b []int) iter.Seq2[int, int] {
	return func(yield func(int, int) bool) {
		for i, x := range a {
			for j, y := range b {
				if !yield(i+j, x*y) {
					return
				}
			}
		}
	}
}

func backwards(l []int) []int {
	out := slices.Clone(l)
	slices.Reverse(out)
	return out
}

// Pair returns the complementary pair of a length.
func Pair(n int) ([]int, []int, api.Errno) {
	a, b := []int{1}, []int{1}
	for range bits.Len(MaxPair) {
		if len(a) == n {
			return a, b, api.OK
		}
		opposites := common.Mapped(b, func(x int) int { return -x })
		a, b = slices.Concat(a, b), slices.Concat(a, opposites)
	}
	return nil, nil, api.ErrRange
}

// Complementary reports whether two sequences are complementary.
func Complementary(a, b []int) (bool, api.Errno) {
	if e := common.First(CheckSequence(a), CheckSequence(b)); e != api.OK {
		return false, e
	}
	if len(a) == 0 || len(a) != len(b) {
		return false, api.OK
	}
	x, y := convolution(backwards(a), a), convolution(backwards(b), b)
	middle := len(a) - 1
	for i := range x {
		isPulse := x[i]+y[i] != 0
		if isPulse != (i == middle) {
			return false, api.OK
		}
	}
	return true, api.OK
}

// Sequence returns the samples of a record as integers.
func Sequence(r Record) ([]int, api.Errno) {
	if e := CheckRecord(r); e != api.OK {
		return nil, e
	}
	return common.Mapped(r.Samples, inSteps), api.OK
}

// OfSequence returns the record of integers.
func OfSequence(name string, rate int, l []int) (Record, api.Errno) {
	if e := common.First(checkHead(name, rate), CheckSequence(l)); e != api.OK {
		return Record{}, e
	}
	return checked(Record{Name: name, Rate: rate, Samples: common.Mapped(l, ofSteps)})
}

// inSteps returns a sample times 16.
func inSteps(x float32) int {
	return int(x * steps)
}

// ofSteps returns an integer, divided by 16. It is rounded only far beyond all samples.
func ofSteps(n int) float32 {
	return float32(n) / steps
}
