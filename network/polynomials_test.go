package network_test

import (
	"math"
	"slices"
	"testing"

	"woofer/api"
	"woofer/network"
)

// P2.4: Polynomials.
func TestPolynomials(t *testing.T) {
	for _, x := range []struct {
		l       []network.Element
		entries [4][]int
		divisor []int
	}{
		{filter(), [4][]int{{1, 2, 1}, {2, 1}, {0, 1}, {1}}, []int{1}},
		{nil, [4][]int{{1}, nil, nil, {1}}, []int{1}},
		{row(series(0, 0), shunt(0, 0)), [4][]int{{1}, nil, nil, {1}}, []int{1}},
		{row(series(3, 0)), [4][]int{{1}, {3}, nil, {1}}, []int{1}},
		{row(shunt(0, 3)), [4][]int{{1}, nil, {0, 3}, {1}}, []int{1}},
		{row(block(2, 3)), [4][]int{{2, 3}, {1}, nil, {2, 3}}, []int{2, 3}},
		{row(trap(0, 3)), [4][]int{{0, 3}, nil, {1}, {0, 3}}, []int{0, 3}},
		{row(block(0, 1), trap(0, 1)), [4][]int{{1, 0, 1}, {0, 1}, {0, 1}, {0, 0, 1}}, []int{0, 0, 1}},
		{
			slices.Repeat(row(block(8, 8)), 5),
			[4][]int{{32768, 163840, 327680, 327680, 163840, 32768}, {20480, 81920, 122880, 81920, 20480}, nil, {32768, 163840, 327680, 327680, 163840, 32768}},
			[]int{32768, 163840, 327680, 327680, 163840, 32768},
		},
	} {
		entries, divisor, e := network.Polynomials(x.l)
		equal(t, "Polynomials", e, api.OK)
		for i := range entries {
			equalList(t, "entry", entries[i], x.entries[i])
		}
		equalList(t, "divisor", divisor, x.divisor)
	}
}

// P2.4, Memory: the polynomials share none with each other, nor with those of another call.
func TestPolynomialsShareNothing(t *testing.T) {
	for _, l := range [][]network.Element{nil, filter(), row(block(1, 1))} {
		wanted, wantedDivisor, _ := network.Polynomials(l)
		for i := range wanted {
			entries, divisor, _ := network.Polynomials(l)
			for k := range entries[i] {
				entries[i][k] = 99
			}
			_ = append(entries[i], 99, 99)
			for k := range wanted {
				if k != i {
					equalList(t, "another entry", entries[k], wanted[k])
				}
			}
			equalList(t, "divisor", divisor, wantedDivisor)
		}
	}
}

// P2.4: Value.
func TestValue(t *testing.T) {
	const most = api.MaxNumber
	for _, x := range []struct {
		p []int
		w int
		z api.Gauss
	}{
		{[]int{1, 2, 1}, 2, g(-3, 4)},
		{nil, 5, g(0, 0)},
		{[]int{}, 8, g(0, 0)},
		{[]int{7}, 8, g(7, 0)},
		{[]int{0, 1}, 3, g(0, 3)},
		{[]int{0, 0, 1}, 3, g(-9, 0)},
		{[]int{0, 0, 0, 1}, 3, g(0, -27)},
		{[]int{0, 0, 0, 0, 1}, 3, g(81, 0)},
		{[]int{0, 0, 0, 0, 0, 1}, 3, g(0, 243)},
		{[]int{1, -2, 3, -4, 5, -6}, 2, g(69, -164)},
		{[]int{1, 1, 1, 1, 1, 1}, 1, g(1, 1)},
		{[]int{most, most, -most, -most, most, most}, 8, g(4161*most, 33288*most)},
		{[]int{-most, -most, most, most, -most, -most}, 8, g(-4161*most, -33288*most)},
	} {
		equal(t, "Value", ok[api.Gauss](t)(network.Value(x.p, x.w)), x.z)
	}
}

// P2.4: polynomials and frequencies that are none.
func TestWrongPolynomials(t *testing.T) {
	for _, x := range []struct {
		p []int
		e api.Errno
	}{
		{[]int{1, 1, 1, 1, 1, 1, 1}, api.ErrMany},
		{make([]int, 7), api.ErrMany},
		{[]int{0, 0, 0, 0, 0, 0, math.MaxInt}, api.ErrMany},
		{[]int{0}, api.ErrForm},
		{[]int{1, 2, 0}, api.ErrForm},
		{[]int{math.MaxInt, 0}, api.ErrForm},
		{make([]int, 6), api.ErrForm},
		{[]int{1000000000}, api.ErrRange},
		{[]int{1, -1000000000, 1}, api.ErrRange},
		{[]int{0, 0, 0, 0, 0, math.MinInt}, api.ErrRange},
		{[]int{math.MaxInt, 1}, api.ErrRange},
	} {
		for _, w := range append(wrongFrequencies(), 1, 8) {
			z, e := network.Value(x.p, w)
			fails(t, "Value", z, e, x.e)
		}
	}
	for _, w := range wrongFrequencies() {
		for _, p := range [][]int{nil, {1}, {1, 2, 1}} {
			z, e := network.Value(p, w)
			fails(t, "Value", z, e, api.ErrRange)
		}
	}
}
