package protect_test

import (
	"slices"
	"testing"

	"woofer/api"
	"woofer/protect"
)

// P8.2: Step of the chapter's example, and of others: the greatest permitted gain, at most one above the last one.
func TestStep(t *testing.T) {
	g := exampleG()
	fine := guard{Leak: 1, Heat: 1000, Taps: list(1), Reach: 9, Gains: list(0, 1, 3, 10, 15)}
	flat := guard{Leak: 1, Heat: 100, Taps: list(1, 2), Reach: 20, Gains: list(0)}
	for _, x := range []struct {
		g      guard
		s      state
		input  int
		output int
		behind state
	}{
		{g, at(0, 2, 0), 12, 6, at(36, 1, 6)},
		{g, at(0, 2, 0), -12, -6, at(36, 1, -6)},
		{g, at(0, 2, 0), 6, 6, at(36, 2, 6)},
		{g, at(0, 2, 0), 10, 10, at(100, 2, 10)},
		{g, at(0, 2, 0), 11, 5, at(25, 1, 5)},
		{g, at(0, 2, 0), -11, -5, at(25, 1, -5)},
		{g, at(0, 2, 0), 21, 10, at(100, 1, 10)},
		{g, at(0, 2, 0), 22, 0, at(0, 0, 0)},
		{g, at(0, 2, 0), 2048, 0, at(0, 0, 0)},
		{g, at(0, 2, 0), -2048, 0, at(0, 0, 0)},
		{g, at(0, 2, 0), 0, 0, at(0, 2, 0)},
		{g, at(0, 1, 0), 6, 6, at(36, 2, 6)},
		{g, at(0, 1, 0), 12, 6, at(36, 1, 6)},
		{g, at(0, 0, 0), 6, 3, at(9, 1, 3)},
		{g, at(0, 0, 0), 1, 0, at(0, 1, 0)},
		{g, at(0, 0, 0), -1, 0, at(0, 1, 0)},
		{g, at(0, 0, 0), 0, 0, at(0, 1, 0)},
		{g, at(0, 0, 0), 22, 0, at(0, 0, 0)},
		// The heat is what 10 is too much for.
		{g, at(99, 2, 0), 7, 7, at(50+49, 2, 7)},
		{g, at(100, 2, 0), 7, 7, at(50+49, 2, 7)},
		{g, at(100, 2, 0), 8, 4, at(50+16, 1, 4)},
		// The excursion is too great by 1, with the tap of the output before; opposites go together.
		{g, at(0, 2, 7), 6, 6, at(36, 2, 6)},
		{g, at(0, 2, 7), 7, 3, at(9, 1, 3)},
		{g, at(0, 2, 7), -7, -7, at(49, 2, -7)},
		{g, at(0, 2, 10), 0, 0, at(0, 2, 0)},
		{g, at(0, 2, 10), 1, 0, at(0, 1, 0)},
		{g, at(0, 2, 10), -10, -10, at(100, 2, -10)},
		{g, at(0, 2, -10), -2, -1 + 1, at(0, 0, 0)},
		{fine, at(0, 4), 9, 8, at(64, 4)},
		{fine, at(0, 4), 10, 9, at(81, 4)},
		{fine, at(0, 4), 11, 6, at(36, 3)},
		{fine, at(0, 4), 15, 9, at(81, 3)},
		{fine, at(0, 4), -15, -9, at(81, 3)},
		{fine, at(0, 4), 16, 3, at(9, 2)},
		{fine, at(0, 4), -16, -3, at(9, 2)},
		{fine, at(0, 4), 53, 9, at(81, 2)},
		{fine, at(0, 4), 54, 3, at(9, 1)},
		{fine, at(0, 4), 159, 9, at(81, 1)},
		{fine, at(0, 4), 160, 0, at(0, 0)},
		{fine, at(0, 0), 5, 0, at(0, 1)},
		{fine, at(0, 1), 5, 0, at(0, 2)},
		{fine, at(0, 2), 5, 3, at(9, 3)},
		{fine, at(0, 3), 5, 4, at(16, 4)},
		{flat, at(99, 0, 3), 7, 0, at(50, 0, 0)},
		{free(-64), at(0, 1), 2048, 2048, at(2048*2048, 1)},
	} {
		want(t, "Step", two{x.output, x.behind})(both(protect.Step(x.g, x.s, x.input)))
	}
}

// P8.2: Step against all gains, in states that outputs have led to, and in any safe ones.
func TestStepOfAll(t *testing.T) {
	next := random(15)
	fell, rose := 0, 0
	for _, g := range someGuards() {
		for _, loud := range someLoud {
			s := safeState(next, g, loud)
			if next(0, 1) == 0 {
				s = drawnState(next, g, loud)
			}
			if h := historyOf(g, s); h.isSafe() {
				input := next(-2*loud, 2*loud)
				input = min(max(input, -protect.MaxValue), protect.MaxValue)
				output, level := h.stepped(s.Level, input)
				want(t, "Step", two{output, h.with(output).state(level)})(both(protect.Step(g, s, input)))
				fell += min(max(s.Level-level, 0), 1)
				rose += max(level-s.Level, 0)
			}
		}
	}
	same(t, "enough steps of both sorts", min(fell, rose) > 50, true)
}

// P8.2: Run, Levels and Peaks of the chapter's example, and of others.
func TestRuns(t *testing.T) {
	g := exampleG()
	half := guard{Leak: 8, Heat: protect.MaxHeat, Taps: list(-1), Reach: 2048, Gains: list(0, 8)}
	for _, x := range []struct {
		g               guard
		in, out, levels []int
		peak            protect.Peak
	}{
		{g, list(6, 6, 6), list(6, 6, 6), list(2, 2, 2), protect.Peak{Heat: 63, Excursion: 18}},
		{g, list(12, 12), list(6, 6), list(1, 1), protect.Peak{Heat: 54, Excursion: 18}},
		{g, nil, nil, nil, protect.Peak{}},
		{g, list(0), list(0), list(2), protect.Peak{}},
		{g, list(22, 6, 6, 0), list(0, 3, 6, 0), list(0, 1, 2, 2), protect.Peak{Heat: 41, Excursion: 12}},
		{g, list(10, 22, 12, 0, 7, 7), list(10, 0, 6, 0, 7, 3), list(2, 0, 1, 2, 2, 1), protect.Peak{Heat: 100, Excursion: 20}},
		{g, list(-10, 10, -10), list(-10, 5, -5), list(2, 1, 1), protect.Peak{Heat: 100, Excursion: 15}},
		{half, list(2048, -2048, 3, -3), list(1024, -1024, 1, -1), list(1, 1, 1, 1), protect.Peak{Heat: 2*1024*1024 - 4096, Excursion: 1024}},
	} {
		want(t, "Run", x.out)(protect.Run(x.g, x.in))
		want(t, "Levels", x.levels)(protect.Levels(x.g, x.in))
		want(t, "Peaks", x.peak)(protect.Peaks(x.g, x.out))
		same(t, "CheckRun", protect.CheckRun(x.g, x.in, x.out), api.OK)
	}
}

// P8.2: Run, Levels and Peaks against all gains of each step.
func TestRunsOfAll(t *testing.T) {
	next := random(17)
	lowered := 0
	for _, g := range someGuards() {
		for _, loud := range someLoud {
			in := draw(next, next(0, 15), loud)
			out, levels, _ := ran(g, in)
			want(t, "Run", out)(protect.Run(g, in))
			want(t, "Levels", levels)(protect.Levels(g, in))
			same(t, "CheckRun", protect.CheckRun(g, in, out), api.OK)
			if slices.ContainsFunc(levels, func(i int) bool { return i < len(g.Gains)-1 }) {
				lowered++
			}
		}
	}
	same(t, "enough runs with other gains", lowered > 200, true)
}

// P8.2: Peaks of outputs that keep no limits: all heats and excursions are looked at, and no heat is limited.
func TestPeaks(t *testing.T) {
	g := exampleG()
	for _, x := range []struct {
		g    guard
		out  []int
		peak protect.Peak
	}{
		{g, list(11), protect.Peak{Heat: 121, Excursion: 11}},
		{g, list(11, 0), protect.Peak{Heat: 121, Excursion: 22}},
		{g, list(-11, 0, 0, 0, 0, 3), protect.Peak{Heat: 121, Excursion: 22}},
		{g, list(1, 2048, 1), protect.Peak{Heat: 1 + 2048*2048, Excursion: 4097}},
		{g, list(-2048, -2048), protect.Peak{Heat: 2048 * 2048 * 3 / 2, Excursion: 3 * 2048}},
		{g, list(-2048, 2048), protect.Peak{Heat: 2048 * 2048 * 3 / 2, Excursion: 2048}},
		{free(0, 0, -64), list(2048, 0, 0), protect.Peak{Heat: 2048 * 2048, Excursion: 64 * 2048}},
		{free(0, 0, -64), list(2048, 0), protect.Peak{Heat: 2048 * 2048}},
		{free(repeated(64, 8)...), repeated(-2048, 8), protect.Peak{Heat: 2*2048*2048 - 2048*2048/128, Excursion: 8 * 64 * 2048}},
	} {
		want(t, "Peaks", x.peak)(protect.Peaks(x.g, x.out))
	}
	next := random(19)
	for _, g := range someGuards() {
		for _, loud := range someLoud {
			out := draw(next, next(0, 15), loud)
			h := history{g: g}
			var peak protect.Peak
			for _, y := range out {
				h = h.with(y)
				x := h.excursion()
				peak = protect.Peak{Heat: max(peak.Heat, h.heat), Excursion: max(peak.Excursion, x, -x)}
			}
			want(t, "Peaks", peak)(protect.Peaks(g, out))
		}
	}
}

// P8.2: the longest signals; a heat that is far above MaxHeat.
func TestLongRuns(t *testing.T) {
	const longest = protect.MaxInput
	slow := guard{Leak: 8, Heat: protect.MaxHeat, Taps: list(0, 0, 0, 0, 0, 0, 0, 64), Reach: protect.MaxReach, Gains: list(0, 16)}
	loud := repeated(-2048, longest)
	heat := 0
	for range longest {
		heat += 2048*2048 - heat/256
	}
	same(t, "a heat beyond MaxHeat", heat > 3*protect.MaxHeat/2, true)
	want(t, "Peaks", protect.Peak{Heat: heat, Excursion: 64 * 2048})(protect.Peaks(slow, loud))
	quiet := repeated(2, longest)
	want(t, "Run", quiet)(protect.Run(slow, quiet))
	want(t, "Levels", repeated(1, longest))(protect.Levels(slow, quiet))
	same(t, "CheckRun", protect.CheckRun(slow, quiet, quiet), api.OK)
	out := of[[]int](t)(protect.Run(slow, loud))
	same(t, "the length", len(out), longest)
	peak := of[protect.Peak](t)(protect.Peaks(slow, out))
	same(t, "a heat near to its limit", peak.Heat > protect.MaxHeat-2048*2048 && peak.Heat <= protect.MaxHeat, true)
	same(t, "CheckRun", protect.CheckRun(slow, loud, out), api.OK)
}

// P8.2: CheckRun of outputs that are not those of the run.
func TestCheckRun(t *testing.T) {
	g := exampleG()
	in, out := list(10, 22, 12, 0, 7, 7), list(10, 0, 6, 0, 7, 3)
	for i := range out {
		for _, n := range []int{1, -1, 5, 100} {
			other := slices.Clone(out)
			other[i] += n
			same(t, "CheckRun", protect.CheckRun(g, in, other), api.ErrProof)
		}
	}
	same(t, "CheckRun", protect.CheckRun(g, in, out), api.OK)
	same(t, "CheckRun", protect.CheckRun(g, nil, nil), api.OK)
	same(t, "CheckRun", protect.CheckRun(g, in, in), api.ErrProof)
	// Less than the greatest permitted gain is none of the run, either.
	same(t, "CheckRun", protect.CheckRun(g, list(6), list(3)), api.ErrProof)
	same(t, "CheckRun", protect.CheckRun(g, list(6), list(0)), api.ErrProof)
	for n := range out {
		same(t, "CheckRun", protect.CheckRun(g, in, out[:n]), api.ErrShape)
		same(t, "CheckRun", protect.CheckRun(g, in[:n], out), api.ErrShape)
		same(t, "CheckRun", protect.CheckRun(g, in[:n], out[:n]), api.OK)
	}
	same(t, "CheckRun", protect.CheckRun(g, list(1), list(9, 9)), api.ErrShape)
}

// P8.2: the errors of arguments, from left to right, and nothing beside them; an unsafe state comes behind them.
func TestWrongRuns(t *testing.T) {
	g := exampleG()
	for _, s := range []state{at(101, 2, 0), at(0, 2, 11), at(0, 0, -11), at(protect.MaxHeat, 0, 2048)} {
		for _, input := range []int{0, 1, -2048} {
			failsBoth[int, state](t, "Step", api.ErrState)(protect.Step(g, s, input))
		}
		for _, n := range wrongValues {
			failsBoth[int, state](t, "Step", api.ErrRange)(protect.Step(g, s, n))
		}
	}
	for _, n := range wrongValues {
		failsBoth[int, state](t, "Step", api.ErrRange)(protect.Step(g, at(0, 0, 0), n))
	}
	for _, x := range wrongStates() {
		failsBoth[int, state](t, "Step", x.e)(protect.Step(g, x.s, 0))
		failsBoth[int, state](t, "Step", x.e)(protect.Step(g, x.s, 2049))
	}
	for _, x := range wrongSignals() {
		fails[[]int](t, "Run", x.e)(protect.Run(g, x.l))
		fails[[]int](t, "Levels", x.e)(protect.Levels(g, x.l))
		fails[protect.Peak](t, "Peaks", x.e)(protect.Peaks(g, x.l))
		for _, y := range wrongSignals() {
			same(t, "CheckRun", protect.CheckRun(g, x.l, y.l), x.e)
		}
		same(t, "CheckRun", protect.CheckRun(g, x.l, nil), x.e)
		same(t, "CheckRun", protect.CheckRun(g, nil, x.l), x.e)
		same(t, "CheckRun", protect.CheckRun(g, list(1), x.l), x.e)
	}
	for _, x := range wrongGuards() {
		for _, l := range [][]int{nil, list(2049), make([]int, 4097)} {
			fails[[]int](t, "Run", x.e)(protect.Run(x.g, l))
			fails[[]int](t, "Levels", x.e)(protect.Levels(x.g, l))
			fails[protect.Peak](t, "Peaks", x.e)(protect.Peaks(x.g, l))
			same(t, "CheckRun", protect.CheckRun(x.g, l, list(1)), x.e)
		}
		failsBoth[int, state](t, "Step", x.e)(protect.Step(x.g, at(0, 0, 11), 0))
		failsBoth[int, state](t, "Step", x.e)(protect.Step(x.g, at(-1, 0, 0), 2049))
	}
}
