package protect_test

import (
	"testing"

	"woofer/api"
	"woofer/protect"
)

// P8.1: CheckGuard of guards with the least and the greatest numbers, of others, and of wrong ones.
func TestCheckGuard(t *testing.T) {
	for _, g := range someGuards() {
		same(t, "CheckGuard", protect.CheckGuard(g), api.OK)
	}
	for leak := 1; leak <= 8; leak++ {
		g := exampleG()
		g.Leak = leak
		same(t, "CheckGuard", protect.CheckGuard(g), api.OK)
	}
	for n := 1; n <= 8; n++ {
		g := exampleG()
		g.Taps = repeated(-64, n)
		g.Gains = list(0, 1, 2, 8, 9, 14, 15, 16)[:n]
		same(t, "CheckGuard", protect.CheckGuard(g), api.OK)
	}
	for _, x := range wrongGuards() {
		same(t, "CheckGuard", protect.CheckGuard(x.g), x.e)
	}
	same(t, "CheckGuard of nothing", protect.CheckGuard(guard{}), api.ErrRange)
}

// P8.1: CheckState; a guard's error comes before that of a state.
func TestCheckState(t *testing.T) {
	g := exampleG()
	for _, s := range []state{at(0, 2, 0), at(0, 0, 0), at(protect.MaxHeat, 1, 2048), at(101, 2, -2048)} {
		same(t, "CheckState", protect.CheckState(g, s), api.OK)
	}
	same(t, "CheckState", protect.CheckState(free(5), at(7, 1)), api.OK)
	same(t, "CheckState", protect.CheckState(free(5), at(7, 1, 0)), api.ErrShape)
	same(t, "CheckState", protect.CheckState(free(1, 2, 3, 4, 5, 6, 7, 8), at(7, 1, repeated(-2048, 7)...)), api.OK)
	for i := range 7 {
		s := at(7, 1, make([]int, 7)...)
		s.Past[i] = 2049
		same(t, "CheckState", protect.CheckState(free(1, 2, 3, 4, 5, 6, 7, 8), s), api.ErrRange)
	}
	next := random(3)
	for _, g := range someGuards() {
		for _, loud := range someLoud {
			same(t, "CheckState", protect.CheckState(g, drawnState(next, g, loud)), api.OK)
		}
	}
	for _, x := range wrongStates() {
		same(t, "CheckState", protect.CheckState(g, x.s), x.e)
	}
	for _, x := range wrongGuards() {
		same(t, "CheckState", protect.CheckState(x.g, at(0, 0, 0)), x.e)
		same(t, "CheckState", protect.CheckState(x.g, at(-1, -1)), x.e)
	}
}

// P8.1: Begin of the chapter's example, and of others.
func TestBegin(t *testing.T) {
	want(t, "Begin", at(0, 2, 0))(protect.Begin(exampleG()))
	want(t, "Begin", at(0, 1))(protect.Begin(free(3)))
	want(t, "Begin", at(0, 0))(protect.Begin(guard{Leak: 1, Taps: list(0), Gains: list(0)}))
	want(t, "Begin", at(0, 1, 0, 0, 0, 0, 0, 0, 0))(protect.Begin(free(1, 1, 1, 1, 1, 1, 1, 1)))
	for _, x := range wrongGuards() {
		fails[state](t, "Begin", x.e)(protect.Begin(x.g))
	}
}

// P8.1: Tails of the chapter's example, and of others: as many as there are last outputs.
func TestTails(t *testing.T) {
	const most = 64 * 2048
	for _, x := range []struct {
		g     guard
		s     state
		tails []int
	}{
		{exampleG(), at(36, 2, 6), list(12)},
		{exampleG(), at(121, 2, 11), list(22)},
		{exampleG(), at(0, 2, -6), list(-12)},
		{exampleG(), at(0, 0, 0), list(0)},
		{free(9), at(5, 1), nil},
		{free(9, 0), at(5, 1, 7), list(0)},
		{free(9, 1, 10, 60), at(0, 1, 2, 3, 4), list(2+30+240, 20+180, 120)},
		{free(9, 0, 0, -1), at(0, 1, 2, 3, 4), list(-4, -3, -2)},
		{free(9, -1, 0, 0), at(0, 1, 2, 3, 4), list(-2, 0, 0)},
		{free(0, 1, 1, 1, 1, 1, 1, 1), at(0, 1, 1, 2, 4, 8, 16, 32, 64), list(127, 63, 31, 15, 7, 3, 1)},
		{free(repeated(-64, 8)...), at(0, 1, repeated(2048, 7)...), list(-7*most, -6*most, -5*most, -4*most, -3*most, -2*most, -most)},
	} {
		want(t, "Tails", x.tails)(protect.Tails(x.g, x.s))
	}
	next := random(7)
	for _, g := range someGuards() {
		for _, loud := range someLoud {
			s := drawnState(next, g, loud)
			want(t, "Tails", historyOf(g, s).tails())(protect.Tails(g, s))
		}
	}
}

// P8.1: Safe of the chapter's example, and of others: at both limits, and beyond them by 1.
func TestSafe(t *testing.T) {
	narrow := guard{Leak: 1, Heat: 50, Taps: list(64, 1, 10), Reach: 20, Gains: list(0)}
	for _, x := range []struct {
		g      guard
		s      state
		isSafe bool
	}{
		{exampleG(), at(0, 2, 0), true},
		{exampleG(), at(36, 2, 6), true},
		{exampleG(), at(121, 2, 11), false},
		{exampleG(), at(100, 0, 10), true},
		{exampleG(), at(100, 0, -10), true},
		{exampleG(), at(101, 0, 10), false},
		{exampleG(), at(101, 0, 0), false},
		{exampleG(), at(100, 0, 11), false},
		{exampleG(), at(0, 0, -11), false},
		{exampleG(), at(protect.MaxHeat, 0, 0), false},
		{free(1), at(protect.MaxHeat, 0), true},
		{guard{Leak: 1, Taps: list(1, 0), Gains: list(0)}, at(0, 0, 2048), true},
		{guard{Leak: 1, Taps: list(1, 1), Gains: list(0)}, at(0, 0, 0), true},
		{guard{Leak: 1, Taps: list(1, 1), Gains: list(0)}, at(0, 0, 1), false},
		{guard{Leak: 1, Taps: list(1, 1), Gains: list(0)}, at(1, 0, 0), false},
		// The tails of the outputs a, b are a + 10 b and 10 a.
		{narrow, at(50, 0, 2, 0), true},
		{narrow, at(51, 0, 2, 0), false},
		{narrow, at(50, 0, 0, 2), true},
		{narrow, at(50, 0, 1, 2), false},
		{narrow, at(50, 0, -1, -2), false},
		{narrow, at(50, 0, 1, 1), true},
		{narrow, at(50, 0, -2, -1), true},
		{narrow, at(50, 0, 3, -2), false},
		{narrow, at(50, 0, -3, 2), false},
		{narrow, at(50, 0, 2, -2), true},
	} {
		want(t, "Safe", x.isSafe)(protect.Safe(x.g, x.s))
	}
	next := random(9)
	count := map[bool]int{}
	for _, g := range someGuards() {
		for _, loud := range someLoud {
			s := drawnState(next, g, loud)
			isSafe := historyOf(g, s).isSafe()
			want(t, "Safe", isSafe)(protect.Safe(g, s))
			count[isSafe]++
		}
	}
	same(t, "enough of both sorts", min(count[true], count[false]) > 100, true)
}

// P8.1: Behind of the chapter's example, and of others, whether they are permitted or not.
func TestBehind(t *testing.T) {
	deep := guard{Leak: 2, Heat: 9, Taps: list(1, 10, 50, 64), Reach: 3, Gains: list(0, 4)}
	slow := guard{Leak: 8, Taps: list(1), Gains: list(0)}
	for _, x := range []struct {
		g         guard
		s         state
		output    int
		behind    state
		excursion int
	}{
		{exampleG(), at(0, 2, 0), 6, at(36, 2, 6), 6},
		{exampleG(), at(0, 2, 0), 11, at(121, 2, 11), 11},
		{exampleG(), at(36, 2, 6), 6, at(54, 2, 6), 18},
		{exampleG(), at(54, 2, 6), 6, at(63, 2, 6), 18},
		{exampleG(), at(63, 0, -6), 0, at(32, 0, 0), -12},
		{exampleG(), at(1, 1, 5), -2048, at(1+2048*2048, 1, -2048), -2038},
		{deep, at(8, 1, 2, 3, 4), 1, at(7, 1, 1, 2, 3), 1 + 20 + 150 + 256},
		{free(0), at(7, 0), 3, at(13, 0), 0},
		{free(-64), at(7, 1), 2048, at(4+2048*2048, 1), -64 * 2048},
		{free(2, 0, 1), at(0, 1, 5, 7), -1, at(1, 1, -1, 5), 5},
		{slow, at(255, 0), 0, at(255, 0), 0},
		{slow, at(256, 0), 0, at(255, 0), 0},
		{slow, at(511, 0), 1, at(511, 0), 1},
		{slow, at(512, 0), -1, at(511, 0), -1},
		{slow, at(protect.MaxHeat, 0), 0, at(protect.MaxHeat-1<<21, 0), 0},
		{slow, at(protect.MaxHeat, 0), 1448, at(protect.MaxHeat-448, 0), 1448},
	} {
		want(t, "Behind", two{x.behind, x.excursion})(both(protect.Behind(x.g, x.s, x.output)))
	}
	next := random(13)
	for _, g := range someGuards() {
		for _, loud := range someLoud {
			s, y := drawnState(next, g, loud), next(-loud, loud)
			h := historyOf(g, s).with(y)
			if h.heat <= protect.MaxHeat {
				want(t, "Behind", two{h.state(s.Level), h.excursion()})(both(protect.Behind(g, s, y)))
			}
		}
	}
}

// P8.1: a heat up to MaxHeat, and above it.
func TestBehindTooHot(t *testing.T) {
	slow := guard{Leak: 8, Heat: 3, Taps: list(1, 1), Gains: list(0, 5)}
	most := protect.MaxHeat
	failsBoth[state, int](t, "Behind", api.ErrLarge)(protect.Behind(slow, at(most, 0, 7), 1449))
	failsBoth[state, int](t, "Behind", api.ErrLarge)(protect.Behind(slow, at(most, 0, 7), -2048))
	// The heat would be MaxHeat, and 1 more.
	want(t, "Behind", two{at(most, 1, 2048), 2055})(both(protect.Behind(slow, at(534765535, 1, 7), 2048)))
	failsBoth[state, int](t, "Behind", api.ErrLarge)(protect.Behind(slow, at(534765536, 1, 7), 2048))
	slow.Leak = 7
	want(t, "Behind", two{at(most, 1, -2048), -2041})(both(protect.Behind(slow, at(most, 1, 7), -2048)))
}

// P8.1: the errors of arguments, from left to right, and nothing beside them.
func TestWrongStates(t *testing.T) {
	for _, x := range wrongGuards() {
		for _, s := range []state{at(0, 0, 0), at(-1, 0)} {
			fails[[]int](t, "Tails", x.e)(protect.Tails(x.g, s))
			fails[bool](t, "Safe", x.e)(protect.Safe(x.g, s))
			failsBoth[state, int](t, "Behind", x.e)(protect.Behind(x.g, s, 0))
			failsBoth[state, int](t, "Behind", x.e)(protect.Behind(x.g, s, 2049))
		}
	}
	for _, x := range wrongStates() {
		fails[[]int](t, "Tails", x.e)(protect.Tails(exampleG(), x.s))
		fails[bool](t, "Safe", x.e)(protect.Safe(exampleG(), x.s))
		failsBoth[state, int](t, "Behind", x.e)(protect.Behind(exampleG(), x.s, 0))
		failsBoth[state, int](t, "Behind", x.e)(protect.Behind(exampleG(), x.s, -2049))
	}
	slow := exampleG()
	slow.Leak = 8
	for _, n := range wrongValues {
		failsBoth[state, int](t, "Behind", api.ErrRange)(protect.Behind(exampleG(), at(0, 0, 0), n))
		failsBoth[state, int](t, "Behind", api.ErrRange)(protect.Behind(slow, at(protect.MaxHeat, 0, 0), n))
	}
}
