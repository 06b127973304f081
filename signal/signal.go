// Package signal is layer 1: see shared/doc/01-signal.md.
package signal

import (
	"cmp"

	"woofer/api"
)

// Limits of records and sequences.
const (
	MaxRate  = 192000
	MaxLevel = 1 << 20
	MaxPair  = 64
	MaxShift = 8
	Size     = 4
)

// steps is how many samples there are from 0 up to 1: a sample is a multiple of 1 / steps.
const steps = 16

// Record is samples with a name and a rate.
type Record struct {
	Name    string
	Rate    int
	Samples []float32
}

// Block is four samples.
type Block [Size]float32

// Spectrum is the transform of a block.
type Spectrum [Size]complex64

// first returns the first error of a list that is in the order of a chapter, or OK.
func first(list ...api.Errno) api.Errno {
	for _, e := range list {
		if e != api.OK {
			return e
		}
	}
	return api.OK
}

// when returns e if it applies, else OK.
func when(applies bool, e api.Errno) api.Errno {
	if applies {
		return e
	}
	return api.OK
}

// within is false for NaN.
func within[T cmp.Ordered](x, least, most T) bool {
	return least <= x && x <= most
}

// mapped returns the results of f for the elements of a list.
func mapped[A, B any](list []A, f func(A) B) []B {
	out := make([]B, len(list))
	for i, x := range list {
		out[i] = f(x)
	}
	return out
}
