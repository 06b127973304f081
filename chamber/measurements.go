package chamber

import (
	"iter"
	"math/bits"
	"slices"

	"woofer/api"
	"woofer/common"
	"woofer/signal"
)

// answered visits both sequences of the pair of a length that is one, each with its answer.
func answered(n int, a, b []int) iter.Seq2[[]int, []int] {
	return func(yield func(sequence, answer []int) bool) {
		first, second, _ := signal.Pair(n)
		if yield(first, a) {
			yield(second, b)
		}
	}
}

// Answers returns the answers of a response to a complementary pair.
func Answers(h []int, n int) ([]int, []int, api.Errno) {
	first, second, wrong := signal.Pair(n)
	if e := common.First(CheckResponse(h), wrong); e != api.OK {
		return nil, nil, e
	}
	a, errorOfA := signal.Convolve(h, first)
	b, errorOfB := signal.Convolve(h, second)
	if e := common.First(errorOfA, errorOfB); e != api.OK {
		return nil, nil, e
	}
	return a, b, api.OK
}

// Deconvolve returns the response that explains two answers.
func Deconvolve(a, b []int, n int) ([]int, api.Errno) {
	h, e := Estimate(a, b, n)
	if e != api.OK {
		return nil, e
	}
	for sequence, answer := range answered(n, a, b) {
		// Answers that would be too large are none of h, either.
		own, e := signal.Convolve(h, sequence)
		if e != api.OK || !slices.Equal(own, answer) {
			return nil, api.ErrConflict
		}
	}
	return h, api.OK
}

// Estimate returns the estimate of a response from two answers.
func Estimate(a, b []int, n int) ([]int, api.Errno) {
	_, _, wrong := signal.Pair(n)
	size := len(a) - n + 1
	e := common.First(
		signal.CheckSequence(a),
		signal.CheckSequence(b),
		wrong,
		common.When(len(a) != len(b) || len(a) > 0 && len(a) < n, api.ErrShape),
		common.When(size > MaxResponse, api.ErrMany),
	)
	if e != api.OK {
		return nil, e
	}
	sums := make([]int, max(size, 0))
	for sequence, answer := range answered(n, a, b) {
		for j := range sums {
			for i, x := range sequence {
				sums[j] += x * answer[i+j]
			}
		}
	}
	// 2 n is a power of two. The shift rounds down, and n, which is added before, makes this the nearest integer.
	return common.Mapped(sums, func(sum int) int { return (sum + n) >> bits.Len(uint(n)) }), api.OK
}

// Divide returns the sequence whose convolution with another one is given.
func Divide(y, a []int) ([]int, api.Errno) {
	e := common.First(
		signal.CheckSequence(y),
		signal.CheckSequence(a),
		common.When(len(a) == 0, api.ErrEmpty),
		common.When(len(a) > 0 && a[0] == 0, api.ErrSingular),
		common.When(len(y) > 0 && len(y) < len(a), api.ErrShape),
	)
	if e != api.OK {
		return nil, e
	}
	q, e := divided(y, a)
	if e != api.OK {
		return nil, e
	}
	// The last elements of y have had no part in the division.
	back, e := signal.Convolve(q, a)
	if e != api.OK || !slices.Equal(back, y) {
		return nil, api.ErrConflict
	}
	return q, api.OK
}

// divided returns the quotient of sequences without an error, or the error of its first element with one.
func divided(y, a []int) ([]int, api.Errno) {
	q := make([]int, max(len(y)-len(a)+1, 0))
	for k := range q {
		rest := y[k]
		for i := 1; i <= min(k, len(a)-1); i++ {
			rest -= a[i] * q[k-i]
		}
		if rest%a[0] != 0 {
			return nil, api.ErrConflict
		}
		q[k] = rest / a[0]
		if !common.Within(q[k], -signal.MaxLevel, signal.MaxLevel) {
			return nil, api.ErrLarge
		}
	}
	return q, api.OK
}
