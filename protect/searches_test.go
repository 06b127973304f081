package protect_test

import (
	"slices"
	"testing"

	"woofer/api"
	"woofer/protect"
)

// P8.4: Loudest of the chapter's example, and of others; of several the one that comes first.
func TestLoudest(t *testing.T) {
	g := exampleG()
	even := guard{Leak: 1, Heat: 150, Taps: list(1), Reach: 10, Gains: list(0)}
	for _, x := range []struct {
		g      guard
		levels []int
		n      int
		l      []int
	}{
		{g, list(-10, 3, 9), 2, list(-10, 3)},
		{g, list(-10, 3, 9), 1, list(-10)},
		{g, list(-10, 3, 9), 0, nil},
		{g, list(-11), 0, nil},
		{g, list(0), 6, make([]int, 6)},
		{g, list(-11, 0, 11), 3, list(0, 0, 0)},
		{g, list(-10, 10), 1, list(-10)},
		{g, list(10), 1, list(10)},
		// The heat rises to 98 at most, whatever the signs are; but 7 behind 7 has the excursion 21.
		{g, list(-7, 7), 6, list(-7, 7, -7, 7, -7, 7)},
		{g, list(6), 6, repeated(6, 6)},
		// The heat behind 10 and 10 is 100 and 150, which leaves 75: 10 is not permitted then, but 8 is.
		{even, list(-10, 10), 2, list(-10, -10)},
		{even, list(0, 10), 3, list(0, 10, 10)},
		{even, list(0, 10), 4, list(10, 10, 0, 10)},
		{even, list(0, 5, 8, 10), 3, list(10, 10, 8)},
		{even, list(-1, 1), 3, list(-1, -1, -1)},
		{guard{Leak: 1, Heat: 150, Taps: list(0, 1), Reach: 4, Gains: list(0)}, list(-5, -4, 2, 5), 2, list(-4, -4)},
		{free(0), list(-2048, -2047, 0, 2046, 2047, 2048), 6, repeated(-2048, 6)},
	} {
		want(t, "Loudest", x.l)(protect.Loudest(x.g, x.levels, x.n))
	}
}

// P8.4: Loudest if there is no list that keeps the limits.
func TestLoudestOfNone(t *testing.T) {
	g := exampleG()
	for _, x := range []struct {
		g      guard
		levels []int
		n      int
	}{
		{g, list(11), 1},
		{g, list(-11, 11), 6},
		{g, list(10), 2},
		{g, list(7), 2},
		{guard{Leak: 1, Taps: list(0), Gains: list(0)}, list(-1, 1), 1},
		// The first output is permitted, and no second one.
		{guard{Leak: 1, Heat: 10, Taps: list(0), Gains: list(0)}, list(-3, 3), 2},
		{guard{Leak: 1, Heat: 10, Taps: list(0, 0, 1, 0), Reach: 2, Gains: list(0)}, list(3), 1},
	} {
		fails[[]int](t, "Loudest", api.ErrInfeasible)(protect.Loudest(x.g, x.levels, x.n))
	}
}

// drawnLevels returns levels up to loud.
func drawnLevels(next func(least, most int) int, loud int) []int {
	levels := draw(next, next(1, protect.MaxLevels), loud)
	slices.Sort(levels)
	return slices.Compact(levels)
}

// P8.4: Loudest against all lists.
func TestLoudestOfAll(t *testing.T) {
	next := random(25)
	count := map[bool]int{}
	for range 400 {
		loud := someLoud[next(0, len(someLoud)-1)]
		g, levels, n := drawnGuard(next, loud), drawnLevels(next, loud), next(0, 3)
		wanted, found := loudestOf(g, levels, n)
		count[found]++
		if found {
			want(t, "Loudest", wanted)(protect.Loudest(g, levels, n))
		} else {
			fails[[]int](t, "Loudest", api.ErrInfeasible)(protect.Loudest(g, levels, n))
		}
	}
	same(t, "enough of both sorts", min(count[true], count[false]) > 50, true)
	for range 2 {
		g, levels := drawnGuard(next, 20), list(-15, -8, 0, 3, 9, 14)
		wanted, _ := loudestOf(g, levels, 5)
		want(t, "Loudest", wanted)(protect.Loudest(g, levels, 5))
	}
}

// P8.4: Energy of the chapter's example, and of others.
func TestEnergy(t *testing.T) {
	for _, x := range []struct {
		l []int
		n int
	}{
		{nil, 0}, {list(-10, 3), 109}, {list(0), 0}, {list(-2048), 2048 * 2048}, {list(1, -2, 3), 14},
		{repeated(-2048, protect.MaxInput), 1 << 34}, {repeated(2048, protect.MaxInput), 1 << 34},
	} {
		want(t, "Energy", x.n)(protect.Energy(x.l))
	}
	for _, x := range wrongSignals() {
		fails[int](t, "Energy", x.e)(protect.Energy(x.l))
	}
}

// P8.4: the errors of arguments, from left to right, and nothing beside them.
func TestWrongLevels(t *testing.T) {
	g := exampleG()
	levels := []wrongList{
		{nil, api.ErrEmpty},
		{list(1, 2, 3, 4, 5, 6, 7), api.ErrMany},
		{make([]int, 7), api.ErrMany},
		{repeated(2049, 7), api.ErrMany},
		{list(2, 1), api.ErrOrder},
		{list(2, 2), api.ErrOrder},
		{list(2, 1, 2049), api.ErrOrder},
		{list(2, 2049, 1), api.ErrRange},
		{list(2, -2049), api.ErrRange},
		{list(2049, 1), api.ErrRange},
		{list(1, 2, 3, 4, 5, 5), api.ErrOrder},
		{list(1, 2, 3, 4, 5, 2049), api.ErrRange},
	}
	for _, n := range wrongValues {
		levels = append(levels, wrongList{list(n), api.ErrRange}, wrongList{list(0, 3, n), api.ErrRange})
	}
	counts := append([]int{-1, protect.MaxSearch + 1}, wrong...)
	for _, x := range levels {
		fails[[]int](t, "Loudest", x.e)(protect.Loudest(g, x.l, 0))
		fails[[]int](t, "Loudest", x.e)(protect.Loudest(g, x.l, 2))
		fails[[]int](t, "Loudest", x.e)(protect.Loudest(g, x.l, 7))
	}
	for _, n := range counts {
		fails[[]int](t, "Loudest", api.ErrRange)(protect.Loudest(g, list(-10, 3, 9), n))
		fails[[]int](t, "Loudest", api.ErrRange)(protect.Loudest(g, list(11), n))
	}
	for _, x := range wrongGuards() {
		fails[[]int](t, "Loudest", x.e)(protect.Loudest(x.g, list(1), 1))
		fails[[]int](t, "Loudest", x.e)(protect.Loudest(x.g, nil, 7))
	}
}
