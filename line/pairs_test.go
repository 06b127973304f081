package line_test

import (
	"slices"
	"testing"

	"woofer/api"
	"woofer/line"
)

type pairs = [][2]int

// P9.4: Difference of the chapter's example, and of others.
func TestDifference(t *testing.T) {
	const most = line.MaxValue
	u := exampleU()
	for _, x := range []struct {
		a, b       unit
		difference int
	}{
		{u[0], u[1], 2},
		{u[0], u[2], 6},
		{u[0], u[3], 20},
		{u[1], u[2], 6},
		{u[1], u[3], 18},
		{u[2], u[3], 19},
		{u[2], u[2], 0},
		{measured("a", -most), measured("b", most), 2 * most},
		{measured("a", 1, 2, 3), measured("a", 1, 2, -3), 6},
		{measured("a", 5, 2, 3), measured("a", -1, 4, 8), 6},
		{measured("a", 1, 2, 3), measured("b", 3, 1, 3), 2},
	} {
		want(t, "Difference", x.difference)(line.Difference(x.a, x.b))
		want(t, "Difference", x.difference)(line.Difference(x.b, x.a))
	}
}

// P9.4: the errors of two units, then of their shapes.
func TestDifferenceErrors(t *testing.T) {
	good := measured("a", 1, 2)
	for i, x := range wrongUnits() {
		fails[int](t, "Difference", x.e)(line.Difference(x.u, good))
		fails[int](t, "Difference", x.e)(line.Difference(good, x.u))
		other := wrongUnits()[(i+1)%len(wrongUnits())]
		fails[int](t, "Difference", x.e)(line.Difference(x.u, other.u))
	}
	for _, u := range []unit{measured("b", 1), measured("b", 1, 2, 3), measured("a", make([]int, line.MaxTests)...)} {
		fails[int](t, "Difference", api.ErrShape)(line.Difference(good, u))
		fails[int](t, "Difference", api.ErrShape)(line.Difference(u, good))
	}
}

// P9.4: Pairs of the chapter's example, and of others; of several best pairings the first one.
func TestPairs(t *testing.T) {
	const most = line.MaxValue
	on := func(values ...int) []unit { return numbered(len(values), func(i int) []int { return list(values[i]) }) }
	for _, x := range []struct {
		l     []unit
		pairs pairs
		worst int
	}{
		{exampleU(), pairs{{0, 2}, {1, 3}}, 18},
		{exampleU()[:2], pairs{{0, 1}}, 2},
		{nil, nil, 0},
		{on(7, 7), pairs{{0, 1}}, 0},
		{on(0, 0, 0, 0), pairs{{0, 1}, {2, 3}}, 0},
		{on(0, 5, 0, 5), pairs{{0, 2}, {1, 3}}, 0},
		{on(0, 5, 5, 0), pairs{{0, 3}, {1, 2}}, 0},
		{on(0, 1, 2, 9), pairs{{0, 1}, {2, 3}}, 7},
		// The worst pair is that of the last two units: each other one may be any.
		{on(0, 1, 2, 3, 4, 5, 90, 99), pairs{{0, 1}, {2, 3}, {4, 5}, {6, 7}}, 9},
		{on(0, 1, 9, 8, 90, 99), pairs{{0, 1}, {2, 3}, {4, 5}}, 9},
		{on(0, 9, 1, 8, 90, 99), pairs{{0, 1}, {2, 3}, {4, 5}}, 9},
		{on(0, 11, 1, 10, 90, 99), pairs{{0, 2}, {1, 3}, {4, 5}}, 9},
		{on(most, -most), pairs{{0, 1}}, 2 * most},
		{on(-most, -most, most, -most), pairs{{0, 1}, {2, 3}}, 2 * most},
		{on(7, 6, 5, 4, 3, 2, 1, 0), pairs{{0, 1}, {2, 3}, {4, 5}, {6, 7}}, 1},
		{on(0, 4, 1, 5, 2, 6, 3, 7), pairs{{0, 2}, {1, 3}, {4, 6}, {5, 7}}, 1},
	} {
		want(t, "Pairs", two{x.pairs, x.worst})(both(line.Pairs(x.l)))
		want(t, "CheckPairs", x.worst)(line.CheckPairs(x.l, x.pairs))
	}
}

// P9.4, P10: Pairs against all orders of the units.
func TestPairsOfAll(t *testing.T) {
	largest := 0
	for _, l := range someUnits() {
		if len(l) == api.MaxExact {
			largest++ // a part of these is enough
		}
		if len(l)%2 == 1 || len(l) == api.MaxExact && largest%4 > 0 {
			continue
		}
		best, worst := bestPairing(l)
		want(t, "Pairs", two{best, worst})(both(line.Pairs(l)))
	}
}

// P9.4: the errors of Pairs: of the units, of an odd number of them, then of too many ones.
func TestPairsErrors(t *testing.T) {
	for _, x := range wrongLists() {
		failsBoth[pairs, int](t, "Pairs", x.e)(line.Pairs(x.l))
	}
	many := numbered(line.MaxUnits, func(i int) []int { return list(i) })
	for n := range line.MaxUnits + 1 {
		switch {
		case n%2 == 1:
			failsBoth[pairs, int](t, "Pairs", api.ErrMatch)(line.Pairs(many[:n]))
		case n > api.MaxExact:
			failsBoth[pairs, int](t, "Pairs", api.ErrLimit)(line.Pairs(many[:n]))
		}
	}
}

// P9.4: CheckPairs of any pairings, of more units than Pairs takes, too.
func TestCheckPairs(t *testing.T) {
	u := exampleU()
	for _, x := range []struct {
		l     []unit
		pairs pairs
		worst int
	}{
		{nil, nil, 0},
		{u, pairs{{0, 1}, {2, 3}}, 19},
		{u, pairs{{0, 2}, {1, 3}}, 18},
		{u, pairs{{0, 3}, {1, 2}}, 20},
		{u[:2], pairs{{0, 1}}, 2},
		{list(u[0], measured("x", 10, 20)), pairs{{0, 1}}, 0},
	} {
		want(t, "CheckPairs", x.worst)(line.CheckPairs(x.l, x.pairs))
	}
	next := random(17)
	for range 300 {
		n := 2 * next(0, line.MaxUnits/2)
		l := drawnUnits(next, n, next(1, 4), list(3, 1000)[next(0, 1)])
		var order []int
		for i := range n {
			order = slices.Insert(order, next(0, i), i)
		}
		pairing := pairingOf(order)
		want(t, "CheckPairs", worstOf(l, pairing))(line.CheckPairs(l, pairing))
	}
}

// P9.4: the errors of CheckPairs: of the units, their number, the number of pairs, and of the first pair that has an error.
func TestCheckPairsErrors(t *testing.T) {
	for _, x := range wrongLists() {
		for _, p := range []pairs{nil, {{0, 1}}, repeated([2]int{9, 9}, 99)} {
			fails[int](t, "CheckPairs", x.e)(line.CheckPairs(x.l, p))
		}
	}
	l := numbered(7, func(i int) []int { return list(i) })
	for _, p := range []pairs{nil, {{0, 1}}, {{0, 1}, {2, 3}, {4, 5}}, repeated([2]int{9, 9}, 99)} {
		fails[int](t, "CheckPairs", api.ErrMatch)(line.CheckPairs(l, p))
		fails[int](t, "CheckPairs", api.ErrMatch)(line.CheckPairs(l[:1], p))
	}
	for _, p := range []pairs{nil, {{0, 1}, {2, 3}}, {{9, 9}, {9, 9}}, {{0, 1}, {2, 3}, {4, 5}, {0, 1}}, repeated([2]int{9, 9}, 99)} {
		fails[int](t, "CheckPairs", api.ErrShape)(line.CheckPairs(l[:6], p))
	}
	fails[int](t, "CheckPairs", api.ErrShape)(line.CheckPairs(nil, pairs{{0, 1}}))
	for _, x := range []struct {
		pairs pairs
		e     api.Errno
	}{
		{pairs{{0, 6}, {1, 2}, {3, 4}}, api.ErrUnknown},
		{pairs{{-1, 0}, {1, 2}, {3, 4}}, api.ErrUnknown},
		{pairs{{0, -1}, {1, 2}, {3, 4}}, api.ErrUnknown},
		{pairs{{6, 0}, {1, 2}, {3, 4}}, api.ErrUnknown},
		{pairs{{6, 6}, {1, 2}, {3, 4}}, api.ErrUnknown},
		{pairs{{0, 1}, {2, 3}, {4, 6}}, api.ErrUnknown},
		{pairs{{0, 1}, {2, 3}, {-1, 3}}, api.ErrUnknown},
		{pairs{{1, 0}, {2, 3}, {4, 5}}, api.ErrOrder},
		{pairs{{0, 0}, {2, 3}, {4, 5}}, api.ErrOrder},
		{pairs{{0, 1}, {2, 3}, {5, 4}}, api.ErrOrder},
		{pairs{{0, 1}, {2, 3}, {3, 2}}, api.ErrOrder},
		{pairs{{2, 3}, {0, 1}, {4, 5}}, api.ErrOrder},
		{pairs{{0, 1}, {4, 5}, {2, 3}}, api.ErrOrder},
		{pairs{{0, 1}, {0, 2}, {3, 4}}, api.ErrOrder},
		{pairs{{0, 1}, {0, 1}, {0, 1}}, api.ErrOrder},
		{pairs{{0, 1}, {1, 2}, {3, 4}}, api.ErrTwice},
		{pairs{{0, 2}, {1, 2}, {3, 4}}, api.ErrTwice},
		{pairs{{0, 5}, {1, 2}, {3, 5}}, api.ErrTwice},
		{pairs{{0, 5}, {1, 2}, {5, 4}}, api.ErrOrder},
		{pairs{{0, 2}, {1, 4}, {2, 3}}, api.ErrTwice},
		// The first pair that has an error decides.
		{pairs{{1, 0}, {2, 6}, {4, 5}}, api.ErrOrder},
		{pairs{{0, 6}, {2, 1}, {4, 5}}, api.ErrUnknown},
		{pairs{{0, 1}, {1, 2}, {4, 6}}, api.ErrTwice},
		{pairs{{0, 1}, {1, 2}, {0, 3}}, api.ErrTwice},
	} {
		fails[int](t, "CheckPairs", x.e)(line.CheckPairs(l[:6], x.pairs))
	}
	for _, n := range wrong {
		for _, p := range []pairs{{{n, 1}, {2, 3}, {4, 5}}, {{0, n}, {2, 3}, {4, 5}}, {{0, 1}, {n, n}, {4, 5}}} {
			fails[int](t, "CheckPairs", api.ErrUnknown)(line.CheckPairs(l[:6], p))
		}
	}
}

// typicalOf returns the unit whose greatest difference to another unit is least.
func typicalOf(l []unit) int {
	typical, least := 0, -1
	for i, u := range l {
		greatest := 0
		for k, other := range l {
			if k != i {
				greatest = max(greatest, gap(u, other))
			}
		}
		if least < 0 || greatest < least {
			typical, least = i, greatest
		}
	}
	return typical
}

// P9.4: Typical of the chapter's example, and of others; of several units the first one.
func TestTypical(t *testing.T) {
	on := func(values ...int) []unit { return numbered(len(values), func(i int) []int { return list(values[i]) }) }
	for _, x := range []struct {
		l  []unit
		at int
	}{
		{exampleU(), 1},
		{exampleU()[:3], 0},
		{exampleU()[:1], 0},
		{on(5), 0},
		{on(5, 5, 5), 0},
		{on(0, 10, 5), 2},
		{on(0, 4, 10, 6), 1},
		{on(10, 6, 0, 4), 1},
		{on(line.MaxValue, -line.MaxValue, 0, 1), 2},
		{star(7), 0},
	} {
		want(t, "Typical", x.at)(line.Typical(x.l))
	}
	next := random(19)
	for range 200 {
		l := drawnUnits(next, next(1, line.MaxUnits), next(1, 4), list(5, 100, line.MaxValue)[next(0, 2)])
		want(t, "Typical", typicalOf(l))(line.Typical(l))
	}
}

// P9.4: the errors of Typical: of the units, then of none.
func TestTypicalErrors(t *testing.T) {
	for _, x := range wrongLists() {
		fails[int](t, "Typical", x.e)(line.Typical(x.l))
	}
	fails[int](t, "Typical", api.ErrEmpty)(line.Typical(nil))
	fails[int](t, "Typical", api.ErrEmpty)(line.Typical([]unit{}))
}
