package protect_test

import (
	"math"
	"testing"

	"woofer/api"
	"woofer/protect"
)

// P8.3: Steady of the chapter's example, and of others: at squares, and beside them.
func TestSteady(t *testing.T) {
	want(t, "Steady", 7)(protect.Steady(exampleG()))
	for _, x := range []struct{ leak, heat, output int }{
		{1, 0, 0}, {1, 1, 0}, {1, 2, 1}, {1, 3, 1}, {1, 7, 1}, {1, 8, 2}, {1, 9, 2}, {1, 17, 2}, {1, 18, 3},
		{1, 97, 6}, {1, 98, 7}, {1, 127, 7}, {1, 128, 8}, {2, 100, 5}, {2, 99, 4}, {3, 100, 3}, {8, 255, 0}, {8, 256, 1},
		{1, protect.MaxHeat, 2048}, {7, protect.MaxHeat, 2048}, {7, protect.MaxHeat - 1, 2047}, {8, protect.MaxHeat, 1448},
		{1, 2 * 2048 * 2048, 2048}, {1, 2*2048*2048 - 1, 2047}, {1, 2*2049*2049 + 1, 2048}, {6, protect.MaxHeat - 1, 2048},
	} {
		g := exampleG()
		g.Leak, g.Heat = x.leak, x.heat
		want(t, "Steady", x.output)(protect.Steady(g))
	}
	for _, g := range someGuards() {
		output := 0
		for output < protect.MaxValue && (output+1)*(output+1) <= int(math.Floor(float64(g.Heat)/math.Pow(2, float64(g.Leak)))) {
			output++
		}
		want(t, "Steady", output)(protect.Steady(g))
	}
}

// P8.3: Quiet of the chapter's example, and of others: by the heat, by the reach, and without taps.
func TestQuiet(t *testing.T) {
	want(t, "Quiet", 6)(protect.Quiet(exampleG()))
	for _, x := range []struct {
		heat, reach int
		taps        []int
		input       int
	}{
		{100, 20, list(1, 2), 6},
		{100, 21, list(1, 2), 7},
		{100, 24, list(1, 2), 7},
		{60, 21, list(1, 2), 5},
		{100, 20, list(-1, 2), 6},
		{100, 20, list(1, -2), 6},
		{100, 20, list(-1, -2, 0, -7), 2},
		{100, 20, list(21), 0},
		{100, 20, list(-20), 1},
		{100, 0, list(1), 0},
		{100, 0, list(0, 1), 0},
		{100, 0, list(0, 0, 0, 0, 0, 0, 0, -1), 0},
		{100, 0, list(0), 7},
		{100, 0, make([]int, 8), 7},
		{protect.MaxHeat, 0, list(0), 2048},
		{protect.MaxHeat, 2047, list(1), 2047},
		{protect.MaxHeat, 2048, list(0, -1), 2048},
		{protect.MaxHeat, 2049, list(1), 2048},
		{protect.MaxHeat, protect.MaxReach, list(1), 2048},
		{protect.MaxHeat, protect.MaxReach, repeated(-64, 8), 2048},
		{protect.MaxHeat, protect.MaxReach - 1, repeated(64, 8), 2047},
		{0, 20, list(0), 0},
	} {
		g := guard{Leak: 1, Heat: x.heat, Taps: x.taps, Reach: x.reach, Gains: list(0)}
		want(t, "Quiet", x.input)(protect.Quiet(g))
	}
	for _, g := range someGuards() {
		input := of[int](t)(protect.Steady(g))
		for input*weightOf(g.Taps) > g.Reach {
			input--
		}
		want(t, "Quiet", input)(protect.Quiet(g))
	}
}

// P8.3: Cool of the chapter's example, and of others.
func TestCool(t *testing.T) {
	for _, x := range []struct{ leak, from, to, n int }{
		{1, 100, 10, 4}, {1, 100, 13, 3}, {1, 100, 12, 4}, {1, 100, 7, 4}, {1, 100, 6, 5}, {1, 100, 50, 1}, {1, 100, 49, 2}, {1, 100, 99, 1},
		{1, 100, 100, 0}, {1, 100, 101, 0}, {1, 0, 0, 0}, {1, 1, 1, 0}, {1, 2, 1, 1}, {1, 3, 1, 2}, {1, 0, protect.MaxHeat, 0},
		{2, 4, 3, 1}, {2, 5, 3, 2}, {2, 100, 3, 14}, {8, 256, 255, 1}, {8, 511, 255, 256}, {8, 512, 511, 1}, {8, 512, 510, 1}, {8, 512, 509, 2},
		{1, protect.MaxHeat, 1, 29}, {1, protect.MaxHeat, protect.MaxHeat - 1, 1},
	} {
		g := exampleG()
		g.Leak = x.leak
		want(t, "Cool", x.n)(protect.Cool(g, x.from, x.to))
	}
	for _, x := range []struct{ leak, from, to int }{
		{1, 1, 0}, {1, 100, 0}, {1, protect.MaxHeat, 0}, {2, 3, 2}, {2, 1, 0}, {2, 100, 2}, {8, 255, 254}, {8, 1, 0}, {8, protect.MaxHeat, 254}, {8, protect.MaxHeat, 0},
	} {
		g := exampleG()
		g.Leak = x.leak
		fails[int](t, "Cool", api.ErrInfeasible)(protect.Cool(g, x.from, x.to))
	}
}

// P8.3: Cool against steps by Behind, for all leaks; the heats of G are no limits here.
func TestCoolBySteps(t *testing.T) {
	next := random(21)
	for leak := 1; leak <= protect.MaxLeak; leak++ {
		g := guard{Leak: leak, Taps: list(0), Gains: list(0)}
		for range 30 {
			from := next(0, list(300, 100000, protect.MaxHeat)[next(0, 2)])
			to := next(0, min(list(300, 100000, protect.MaxHeat)[next(0, 2)], from))
			s, n := at(from, 0), 0
			for s.Heat > to && s.Heat >= 1<<leak {
				s, _, _ = protect.Behind(g, s, 0)
				n++
			}
			if s.Heat > to {
				fails[int](t, "Cool", api.ErrInfeasible)(protect.Cool(g, from, to))
			} else {
				want(t, "Cool", n)(protect.Cool(g, from, to))
			}
		}
	}
}

// P8.3: Release of the chapter's example, and of others.
func TestRelease(t *testing.T) {
	for level, n := range []int{2, 1, 0} {
		want(t, "Release", n)(protect.Release(exampleG(), at(0, level, 0)))
		want(t, "Release", n)(protect.Release(exampleG(), at(100, level, -10)))
		for _, s := range []state{at(101, level, 0), at(0, level, 11), at(protect.MaxHeat, level, -2048)} {
			fails[int](t, "Release", api.ErrState)(protect.Release(exampleG(), s))
		}
	}
	eight := guard{Leak: 8, Taps: list(64), Gains: list(0, 1, 2, 3, 4, 5, 6, 7)}
	for level := range 8 {
		want(t, "Release", 7-level)(protect.Release(eight, at(0, level)))
	}
	want(t, "Release", 0)(protect.Release(guard{Leak: 1, Taps: list(0), Gains: list(0)}, at(0, 0)))
}

// P8.3: Release against steps with the input 0.
func TestReleaseBySteps(t *testing.T) {
	next := random(23)
	lowered := 0
	for _, g := range someGuards() {
		for _, loud := range someLoud {
			s, n := safeState(next, g, loud), 0
			later := s
			for range g.Gains {
				if later.Level == len(g.Gains)-1 {
					break
				}
				_, behind, e := protect.Step(g, later, 0)
				same(t, "Step", e, api.OK)
				later = behind
				n++
			}
			want(t, "Release", n)(protect.Release(g, s))
			lowered += min(n, 1)
		}
	}
	same(t, "enough lowered gains", lowered > 100, true)
}

// P8.3: the errors of arguments, from left to right, and nothing beside them.
func TestWrongLimits(t *testing.T) {
	heats := append([]int{-1, protect.MaxHeat + 1}, wrong...)
	for _, x := range wrongGuards() {
		fails[int](t, "Steady", x.e)(protect.Steady(x.g))
		fails[int](t, "Quiet", x.e)(protect.Quiet(x.g))
		fails[int](t, "Cool", x.e)(protect.Cool(x.g, 1, 0))
		fails[int](t, "Cool", x.e)(protect.Cool(x.g, -1, -1))
		fails[int](t, "Release", x.e)(protect.Release(x.g, at(0, 0, 0)))
		fails[int](t, "Release", x.e)(protect.Release(x.g, at(-1, 0, 11)))
	}
	for _, n := range heats {
		fails[int](t, "Cool", api.ErrRange)(protect.Cool(exampleG(), n, 0))
		fails[int](t, "Cool", api.ErrRange)(protect.Cool(exampleG(), 0, n))
		fails[int](t, "Cool", api.ErrRange)(protect.Cool(exampleG(), n, n))
	}
	for _, x := range wrongStates() {
		fails[int](t, "Release", x.e)(protect.Release(exampleG(), x.s))
	}
}
