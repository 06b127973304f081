package protect_test

import (
	"fmt"
	"math"
	"slices"
	"testing"

	"woofer/api"
	"woofer/protect"
)

// signals returns signals that are often too loud: drawn ones, those of the greatest values, pulses and square waves.
func signals(next func(least, most int) int, loud int) [][]int {
	const n = 30
	wave := make([]int, n)
	half := next(1, 5)
	for i := range wave {
		wave[i] = loud * (1 - i/half%2*2)
	}
	pulse := make([]int, n)
	pulse[next(0, n-1)] = -protect.MaxValue
	return [][]int{draw(next, n, loud), repeated(loud, n), repeated(-loud, n), wave, pulse}
}

// P8.5, P9: heat and excursion of a run never pass their limits, now and behind its end; no output is greater than its input.
func TestLimitsAreKept(t *testing.T) {
	next := random(31)
	for _, g := range someGuards() {
		for _, loud := range someLoud {
			for _, in := range signals(next, loud) {
				out := of[[]int](t)(protect.Run(g, in))
				same(t, "length", len(out), len(in))
				silence := make([]int, protect.MaxTaps)
				peak := of[protect.Peak](t)(protect.Peaks(g, slices.Concat(out, silence)))
				same(t, "limits are kept", peak.Heat <= g.Heat && peak.Excursion <= g.Reach, true)
				for i, y := range out {
					isLess := max(y, -y) <= max(in[i], -in[i]) && y*in[i] >= 0
					same(t, "no greater output", isLess, true)
				}
			}
		}
	}
}

// P8.5: the run of a signal is its steps, whose states are safe; a step could not have taken a greater gain.
func TestGainsAreGreatest(t *testing.T) {
	next := random(33)
	for _, g := range someGuards() {
		for _, loud := range someLoud {
			for _, in := range signals(next, loud) {
				out := of[[]int](t)(protect.Run(g, in))
				levels := of[[]int](t)(protect.Levels(g, in))
				s := of[state](t)(protect.Begin(g))
				for i, input := range in {
					y, behind, e := protect.Step(g, s, input)
					same(t, "Step", []any{y, behind.Level, e}, []any{out[i], levels[i], api.OK})
					want(t, "Safe", true)(protect.Safe(g, behind))
					same(t, "an output by its gain", y, by(input, g.Gains[behind.Level]))
					same(t, "one above the last one", behind.Level <= s.Level+1, true)
					for level := behind.Level + 1; level <= min(s.Level+1, len(g.Gains)-1); level++ {
						same(t, "a greater gain", historyOf(g, s).permits(by(input, g.Gains[level])), false)
					}
					s = behind
				}
			}
		}
	}
}

// P8.5: an input that is quiet passes as it is, if the greatest gain is Unit.
func TestQuietPasses(t *testing.T) {
	next := random(35)
	sounding := 0
	for _, g := range someGuards() {
		if slices.Max(g.Gains) < protect.Unit {
			continue
		}
		quiet := of[int](t)(protect.Quiet(g))
		for _, in := range [][]int{repeated(quiet, 100), repeated(-quiet, 100), draw(next, 100, quiet), draw(next, 3, quiet)} {
			want(t, "Run", in)(protect.Run(g, in))
			want(t, "Levels", repeated(len(g.Gains)-1, len(in)))(protect.Levels(g, in))
		}
		sounding += min(quiet, 1)
	}
	same(t, "enough inputs that sound", sounding > 30, true)
}

// P8.5: the steady output goes on for ever, with a heat up to the limit; a greater one does not from the limit on.
func TestSteadyGoesOn(t *testing.T) {
	next := random(37)
	for _, g := range someGuards() {
		output := of[int](t)(protect.Steady(g))
		s := at(next(0, g.Heat), 0, make([]int, len(g.Taps)-1)...)
		for range 300 {
			behind, _, e := protect.Behind(g, s, output)
			same(t, "a heat up to the limit", []any{e, behind.Heat <= g.Heat}, []any{api.OK, true})
			s = behind
		}
		hot := historyOf(g, at(g.Heat, 0)).with(output + 1)
		same(t, "a heat above it", hot.heat > g.Heat || output == protect.MaxValue, true)
	}
}

// P8.5: a signal of opposites has the opposite outputs, by the same gains.
func TestOpposites(t *testing.T) {
	next := random(39)
	opposite := func(l []int) []int {
		out := slices.Clone(l)
		for i := range out {
			out[i] = -out[i]
		}
		return out
	}
	for _, g := range someGuards() {
		for _, loud := range someLoud {
			for _, in := range signals(next, loud) {
				out := of[[]int](t)(protect.Run(g, in))
				want(t, "Run of opposites", opposite(out))(protect.Run(g, opposite(in)))
				want(t, "Levels of opposites", of[[]int](t)(protect.Levels(g, in)))(protect.Levels(g, opposite(in)))
				want(t, "Peaks of opposites", of[protect.Peak](t)(protect.Peaks(g, out)))(protect.Peaks(g, opposite(out)))
			}
		}
	}
}

// P8.5: no list of levels that keeps the limits is louder than the loudest one, which keeps them.
func TestNothingIsLouder(t *testing.T) {
	next := random(41)
	for range 300 {
		loud := someLoud[next(0, len(someLoud)-1)]
		g, levels, n := drawnGuard(next, loud), drawnLevels(next, loud), next(1, 6)
		loudest, e := protect.Loudest(g, levels, n)
		if e == api.OK {
			same(t, "the loudest one keeps the limits", isPermitted(g, loudest), true)
			same(t, "length", len(loudest), n)
		}
		energy := of[int](t)(protect.Energy(loudest))
		for range 30 {
			l := make([]int, n)
			for i := range l {
				l[i] = levels[next(0, len(levels)-1)]
			}
			if isPermitted(g, l) {
				same(t, "there is a list", e, api.OK)
				other := of[int](t)(protect.Energy(l))
				isLater := other < energy || other == energy && slices.Compare(l, loudest) >= 0
				same(t, "none is louder, or as loud and before it", isLater, true)
			}
		}
	}
}

// P8.5: less heat at the begin is never more later: behind the same outputs, and behind steps to cool; and it permits more.
func TestLessHeat(t *testing.T) {
	next := random(43)
	for _, g := range someGuards() {
		for _, loud := range someLoud {
			hot := drawnState(next, g, loud)
			cold := hot
			cold.Heat = next(max(hot.Heat-next(0, 3), 0), hot.Heat)
			coldSafe, hotSafe := of[bool](t)(protect.Safe(g, cold)), of[bool](t)(protect.Safe(g, hot))
			same(t, "safe with less heat", coldSafe || !hotSafe, true)
			if hotSafe {
				input := next(-loud, loud)
				_, a, _ := protect.Step(g, cold, input)
				_, b, _ := protect.Step(g, hot, input)
				same(t, "no lesser gain with less heat", a.Level >= b.Level, true)
			}
			to := next(0, hot.Heat)
			n, e := protect.Cool(g, hot.Heat, to)
			fewer, eOfCold := protect.Cool(g, cold.Heat, to)
			same(t, "no more steps to cool", e != api.OK || eOfCold == api.OK && fewer <= n, true)
			for range 20 {
				y := next(-loud, loud)
				a, _, eOfA := protect.Behind(g, cold, y)
				b, _, eOfB := protect.Behind(g, hot, y)
				if eOfB != api.OK {
					break
				}
				same(t, "no more heat", []any{eOfA, a.Heat <= b.Heat}, []any{api.OK, true})
				cold, hot = a, b
			}
		}
	}
}

// P8.1, P8.3: from a safe state the output 0 leads to a safe one, at an excursion that is its first tail.
func TestSafeStatesStaySafe(t *testing.T) {
	next := random(45)
	for _, g := range someGuards() {
		want(t, "Safe at rest", true)(protect.Safe(g, of[state](t)(protect.Begin(g))))
		for _, loud := range someLoud {
			s := safeState(next, g, loud)
			tails := of[[]int](t)(protect.Tails(g, s))
			for i := range len(g.Taps) {
				want(t, "Safe", true)(protect.Safe(g, s))
				behind, excursion, e := protect.Behind(g, s, 0)
				same(t, "Behind", e, api.OK)
				same(t, "a tail", excursion, append(tails, 0)[i])
				s = behind
			}
		}
	}
}

// P8.5: guards are parsed as they were printed.
func TestGuardsComeBack(t *testing.T) {
	for _, g := range someGuards() {
		want(t, "Parse", g)(protect.Parse(of[string](t)(protect.Print(g))))
	}
}

// P8.1 to P8.4, the rule Memory: arguments are not modified, and results share no memory with them or with each other.
func TestMemory(t *testing.T) {
	roomy := func(l ...int) []int { return append(make([]int, 0, 20), l...) }
	g := guard{Leak: 1, Heat: 100, Taps: roomy(1, 2, 1), Reach: 40, Gains: roomy(0, 8, 16)}
	s := at(3, 1, roomy(2, -1)...)
	in, levels := roomy(6, 6, 6), roomy(0, 3, 9)
	results := func() (text string, change func()) {
		begin := of[state](t)(protect.Begin(g))
		tails := of[[]int](t)(protect.Tails(g, s))
		behind, _, _ := protect.Behind(g, s, 0)
		_, step, _ := protect.Step(g, s, 6)
		run := of[[]int](t)(protect.Run(g, in))
		indices := of[[]int](t)(protect.Levels(g, in))
		loudest := of[[]int](t)(protect.Loudest(g, levels, 3))
		parsed := of[guard](t)(protect.Parse("guard 1 100 20 taps 1 2 gains 0 8 16"))
		protect.CheckGuard(g)
		protect.CheckState(g, s)
		protect.Safe(g, s)
		protect.Peaks(g, in)
		protect.CheckRun(g, in, in)
		protect.Steady(g)
		protect.Quiet(g)
		protect.Cool(g, 5, 1)
		protect.Release(g, s)
		protect.Energy(in)
		protect.Print(g)
		return fmt.Sprint(begin, tails, behind, step, run, indices, loudest, parsed), func() {
			for _, x := range [][]int{begin.Past, tails, behind.Past, step.Past, run, indices, loudest, parsed.Taps, parsed.Gains} {
				all := x[:cap(x)]
				same(t, "results do not share memory", slices.Contains(all, 77), false)
				for i := range all {
					all[i] = 77
				}
			}
		}
	}
	arguments := func() string { return fmt.Sprint(g.Taps[:20], g.Gains[:20], s.Past[:20], g, s, in[:20], levels[:20]) }
	before := arguments()
	wanted, change := results()
	same(t, "arguments", arguments(), before)
	change()
	same(t, "arguments behind a change of results", arguments(), before)
	text, _ := results()
	same(t, "results behind it", text, wanted)
}

// P1: no function panics, whatever its arguments are.
func TestNothingPanics(t *testing.T) {
	numbers := []int{math.MinInt, math.MinInt32, -2049, -1, 0, 1, 2, 6, 8, 9, 16, 64, 2048, 2049, protect.MaxHeat, math.MaxInt32, math.MaxInt}
	for _, a := range numbers {
		for _, b := range numbers {
			guards := list(exampleG(), guard{},
				guard{Leak: a, Heat: b, Taps: list(1, 2), Reach: a, Gains: list(0, 16)},
				guard{Leak: 1, Heat: 100, Taps: list(a, b), Reach: b, Gains: list(0, a)},
				guard{Leak: 8, Heat: b, Taps: list(a), Reach: 20, Gains: list(a, b)},
				guard{Leak: 1, Heat: a, Taps: repeated(b, 9), Reach: 5, Gains: nil},
			)
			for _, g := range guards {
				for _, s := range []state{{}, at(a, b, a), at(0, b, b), at(a, 0, 0), at(a, 0), at(0, a, repeated(b, 20)...), at(b, 2, 1)} {
					protect.CheckState(g, s)
					protect.Tails(g, s)
					protect.Safe(g, s)
					protect.Behind(g, s, a)
					protect.Step(g, s, b)
					protect.Release(g, s)
				}
				for _, l := range [][]int{nil, list(a), list(a, b), list(1, b, a), repeated(a, 4097)} {
					protect.Run(g, l)
					protect.Levels(g, l)
					protect.Peaks(g, l)
					protect.CheckRun(g, l, list(a, b))
					protect.CheckRun(g, list(b), l)
					protect.Loudest(g, l, b)
					protect.Loudest(g, l, 2)
					protect.Energy(l)
				}
				protect.CheckGuard(g)
				protect.Begin(g)
				protect.Steady(g)
				protect.Quiet(g)
				protect.Cool(g, a, b)
				protect.Print(g)
			}
		}
	}
	protect.Parse("\xff \x00 1 2 3 4\n\n")
	protect.Parse("guard 1 1 1 gains taps")
}
