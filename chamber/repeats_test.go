package chamber_test

import (
	"math/big"
	"slices"
	"testing"

	"woofer/api"
	"woofer/chamber"
)

// P7.2: Average and Noise of the chapter's example, and of others; at the limits, too.
func TestRepeats(t *testing.T) {
	for _, x := range []struct {
		l       [][]int
		average []api.Ratio
		noise   int
	}{
		{[][]int{{1, 2}, {2, 2}, {2, 3}}, list(ratio(5, 3), ratio(7, 3)), 12},
		{[][]int{{4, -6, 0}}, list(ratio(4, 1), ratio(-6, 1), ratio(0, 1)), 0},
		{[][]int{{1}, {-1}}, list(ratio(0, 1)), 8},
		{[][]int{{-1}, {0}}, list(ratio(-1, 2)), 2},
		{[][]int{{1, 1}, {1, 1}, {1, 2}, {1, 2}}, list(ratio(1, 1), ratio(3, 2)), 16},
		{[][]int{{3}, {3}, {3}, {5}}, list(ratio(7, 2)), 48},
		{[][]int{nil}, nil, 0},
		{repeated([]int(nil), chamber.MaxRepeats), nil, 0},
		{repeated(list(level, -level, 0), chamber.MaxRepeats), list(ratio(level, 1), ratio(-level, 1), ratio(0, 1)), 0},
		{append(repeated(list(0), 15), list(1)), list(ratio(1, 16)), 240},
		{slices.Repeat([][]int{repeated(level, longest), repeated(-level, longest)}, 8), repeated(ratio(0, 1), longest), 1 << 60},
	} {
		want(t, "Average", x.average)(chamber.Average(x.l))
		want(t, "Noise", x.noise)(chamber.Noise(x.l))
	}
}

// P7.2: Average and Noise against rational numbers: the noise is the square of the number times what differs from the average.
func TestRepeatsInRationals(t *testing.T) {
	next := random(23)
	for range 200 {
		l := drawSome(next, next(1, chamber.MaxRepeats), list(next(0, 5), longest)[next(0, 1)], list(1, 20, level)[next(0, 2)])
		count := big.NewRat(int64(len(l)), 1)
		var averages []api.Ratio
		noise := new(big.Rat)
		for i := range l[0] {
			sum := new(big.Rat)
			for _, h := range l {
				sum.Add(sum, big.NewRat(int64(h[i]), 1))
			}
			average := new(big.Rat).Quo(sum, count)
			averages = append(averages, ratio(int(average.Num().Int64()), int(average.Denom().Int64())))
			for _, h := range l {
				d := new(big.Rat).Sub(big.NewRat(int64(h[i]), 1), average)
				d.Mul(d, count)
				noise.Add(noise, d.Mul(d, d))
			}
		}
		want(t, "Average", averages)(chamber.Average(l))
		same(t, "an integer", noise.IsInt(), true)
		want(t, "Noise", int(noise.Num().Int64()))(chamber.Noise(l))
	}
}

// P7.2: the errors of repeats, in their order.
func TestWrongRepeats(t *testing.T) {
	bad := func(l [][]int, e api.Errno) {
		t.Helper()
		fails[[]api.Ratio](t, "Average", e)(chamber.Average(l))
		fails[int](t, "Noise", e)(chamber.Noise(l))
	}
	bad(nil, api.ErrEmpty)
	bad([][]int{}, api.ErrEmpty)
	bad(repeated(list(1), chamber.MaxRepeats+1), api.ErrMany)
	bad(repeated(list(level+1), chamber.MaxRepeats+1), api.ErrMany)
	bad(append(repeated(list(1), chamber.MaxRepeats), list(1, 2)), api.ErrMany)
	for _, n := range []int{3, chamber.MaxRepeats} {
		for _, x := range wrongGroups(n) {
			bad(x.l, x.e)
		}
	}
	for _, x := range wrongResponses() {
		bad([][]int{x.l}, x.e)
	}
}
