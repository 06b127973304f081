package section_test

import (
	"slices"
	"testing"

	"woofer/api"
	"woofer/section"
)

// P5.1: CheckSection and CheckState.
func TestChecks(t *testing.T) {
	for _, s := range someSections() {
		same(t, "CheckSection", section.CheckSection(s), api.OK)
	}
	for _, s := range wrongSections() {
		same(t, "CheckSection", section.CheckSection(s), api.ErrRange)
	}
	const most = section.MaxValue
	for _, x := range []section.State{{}, {X1: most, X2: most, Y1: most, Y2: most}, {X1: -most, X2: -most, Y1: -most, Y2: -most}, outputs(1, 2), inputs(-3, 4)} {
		same(t, "CheckState", section.CheckState(x), api.OK)
	}
	for _, x := range wrongStates() {
		same(t, "CheckState", section.CheckState(x), api.ErrRange)
	}
}

// stepTo requires the output of a step, and the state behind it.
func stepTo(t *testing.T, s section.Section, x section.State, input, output int, behind section.State) {
	t.Helper()
	got, gotState, e := section.Step(s, x, input)
	same(t, "Step", []any{got, gotState, e}, []any{output, behind, api.OK})
}

// P5.1: Step, of which each tap has its own input or output, rounds down and limits.
func TestStep(t *testing.T) {
	all := section.State{X1: 10, X2: 100, Y1: 1000, Y2: 10000}
	behind := func(input, output int) section.State {
		return section.State{X1: input, X2: 10, Y1: output, Y2: 1000}
	}
	for _, x := range []struct {
		s             section.Section
		input, output int
	}{
		{section.Section{}, 5, 0},
		{filter(1, 0, 0, 0), 5, 5},
		{filter(0, 1, 0, 0), 5, 10},
		{filter(0, 0, 1, 0), 5, 100},
		{back(filter(0, 0, 0, 0), 1, 0), 5, -1000},
		{back(filter(0, 0, 0, 0), 0, 1), 5, -10000},
		{back(filter(2, 3, 4, 0), -5, -1), 5, 15440},
		{back(filter(2, 3, 4, 4), -5, -1), 5, 965},
		{back(filter(-2, -3, -4, 4), 5, 1), 5, -965},
		{back(filter(2, 3, 4, 5), -5, -1), 5, 482},
		{back(filter(-2, -3, -4, 5), 5, 1), 5, -483},
		{filter(1, 0, 0, 1), 3, 1},
		{filter(-1, 0, 0, 1), 3, -2},
		{filter(1, 0, 0, 1), -3, -2},
		{filter(1, 0, 0, 15), 32767, 0},
		{filter(1, 0, 0, 15), -1, -1},
		{filter(0, 0, 0, 15), -1, 0},
		{filter(32767, 0, 0, 15), 32767, 32766},
		{filter(-32767, 0, 0, 15), 32767, -32767},
		{filter(32767, 0, 0, 0), 1, 32767},
		{filter(32767, 0, 0, 0), 2, 32767},
		{filter(32767, 0, 0, 0), -1, -32767},
		{filter(32767, 0, 0, 0), -2, -32767},
		{filter(32767, 0, 0, 0), 32767, 32767},
		{filter(32767, 0, 0, 0), -32767, -32767},
	} {
		stepTo(t, x.s, all, x.input, x.output, behind(x.input, x.output))
	}
	// The limits come behind the shift: all of these sums are beyond them, or of numbers that are.
	const most = section.MaxValue
	top := section.State{X1: most, X2: most, Y1: -most, Y2: -most}
	stepTo(t, back(filter(most, most, most, 15), most, most), top, most, most, section.State{X1: most, X2: most, Y1: most, Y2: -most})
	stepTo(t, back(filter(most, 0, -most, 15), 0, 0), top, most, 0, section.State{X1: most, X2: most, Y2: -most})
	stepTo(t, filter(-1, -2, -1, 2), inputs(most, most), most, -most, section.State{X1: most, X2: most, Y1: -most})
	stepTo(t, filter(-1, -2, -2, 2), inputs(1, most), most, -24576, section.State{X1: most, X2: 1, Y1: -24576})
}

// P5.1: Run and Impulse of the chapter's examples, and of others.
func TestRuns(t *testing.T) {
	for _, x := range []struct {
		s       section.Section
		in, out []int
	}{
		{exampleS, list(8, 0, 0, 0, 0, 0), list(8, 4, 2, 1, 0, 0)},
		{exampleS, list(-8, 0, 0, 0, 0, 0), list(-8, -4, -2, -1, -1, -1)},
		{filter(1, 2, 1, 2), list(4, 0, 0), list(1, 2, 1)},
		{filter(1, 2, 1, 2), list(4, 0, 0, 0, 4, 4), list(1, 2, 1, 0, 1, 3)},
		{filter(2, 1, 0, 1), list(3, 1, -2), list(3, 2, -2)},
		{filter(30000, 0, 0, 0), list(1, 2, -2), list(30000, 32767, -32767)},
		{exampleS, nil, nil},
		// 1 and the outputs before, until they are limited.
		{back(filter(1, 0, 0, 0), -1, -1), list(1, 0, 0, 0, 0, 0), list(1, 1, 2, 3, 5, 8)},
		{back(filter(1, 0, 0, 0), -200, 0), list(1, 0, 0, 0, -1, 0, 0), list(1, 200, 32767, 32767, 32767, 32767, 32767)},
		{back(filter(1, 0, 0, 0), 200, 0), list(1, 0, 0, 0, 0), list(1, -200, 32767, -32767, 32767)},
		{back(filter(1, 0, 0, 0), 0, 1), list(5, 3, 0, 0, 0), list(5, 3, -5, -3, 5)},
	} {
		want(t, "Run", x.out)(section.Run(x.s, x.in))
	}
	for _, x := range []struct {
		height, n int
		out       []int
	}{
		{8, 6, list(8, 4, 2, 1, 0, 0)},
		{-8, 6, list(-8, -4, -2, -1, -1, -1)},
		{8, 1, list(8)},
		{8, 0, nil},
		{0, 3, list(0, 0, 0)},
		{32767, 3, list(32767, 16383, 8191)},
		{-32767, 3, list(-32767, -16384, -8192)},
	} {
		want(t, "Impulse", x.out)(section.Impulse(exampleS, x.height, x.n))
	}
	most := of[[]int](t)(section.Impulse(exampleS, -1, section.MaxInput))
	same(t, "the longest Impulse", most, slices.Repeat([]int{-1}, section.MaxInput))
}

// P5.1: Step, Run, From, Impulse and Saturations against rational numbers.
func TestStepsAreRational(t *testing.T) {
	next := random(11)
	sum := 0
	for _, s := range someSections() {
		x, l := drawnState(next), draw(next, next(0, 30), list(2, 300, section.MaxValue)[next(0, 2)])
		wanted := counted(s, x, l)
		got, behind, e := section.From(s, x, l)
		same(t, "From", []any{got, behind, e}, []any{wanted.outputs[2:], wanted.state(), api.OK})
		if len(l) > 0 {
			first := counted(s, x, l[:1])
			stepTo(t, s, x, l[0], first.outputs[2], first.state())
		}
		run := counted(s, section.State{}, l)
		want(t, "Run", run.outputs[2:])(section.Run(s, l))
		want(t, "Saturations", run.limited)(section.Saturations(s, l))
		sum += run.limited
		n, height := next(1, 20), next(-section.MaxValue, section.MaxValue)
		pulse := make([]int, n)
		pulse[0] = height
		want(t, "Impulse", counted(s, section.State{}, pulse).outputs[2:])(section.Impulse(s, height, n))
	}
	same(t, "enough outputs are limited", sum > 100, true)
	same(t, "enough outputs are not limited", sum < len(someSections())*8, true)
}

// P5.1: From at its edges.
func TestFrom(t *testing.T) {
	for _, x := range []struct {
		x       section.State
		in, out []int
		behind  section.State
	}{
		{outputs(1, 2), list(0, 0), list(0, 0), section.State{}},
		{outputs(-1, -1), list(0, 0), list(-1, -1), outputs(-1, -1)},
		{outputs(100, 50), nil, nil, outputs(100, 50)},
		{section.State{X1: 1, X2: 2, Y1: 3, Y2: 4}, nil, nil, section.State{X1: 1, X2: 2, Y1: 3, Y2: 4}},
		{section.State{X1: 1, X2: 2, Y1: 3, Y2: 4}, list(5), list(6), section.State{X1: 5, X2: 1, Y1: 6, Y2: 3}},
	} {
		out, behind, e := section.From(exampleS, x.x, x.in)
		same(t, "From", []any{out, behind, e}, []any{x.out, x.behind, api.OK})
	}
}

// P5.1: Cascade, also without sections, and with the most of them.
func TestCascade(t *testing.T) {
	twice, half, late := filter(2, 0, 0, 0), filter(1, 0, 0, 1), filter(0, 1, 0, 0)
	for _, x := range []struct {
		l       []section.Section
		in, out []int
	}{
		{nil, list(1, -2, 3), list(1, -2, 3)},
		{nil, nil, nil},
		{list(exampleS), nil, nil},
		{list(exampleS), list(8, 0, 0, 0, 0, 0), list(8, 4, 2, 1, 0, 0)},
		{list(exampleS, exampleS), list(8, 0, 0, 0, 0, 0), list(8, 8, 6, 4, 2, 1)},
		{list(exampleS, filter(2, 1, 0, 1)), list(8, 0, 0, 0, 0, 0), list(8, 8, 4, 2, 0, 0)},
		// Each section rounds, and limits.
		{list(half, twice), list(3, -3), list(2, -4)},
		{list(twice, half), list(3, -3), list(3, -3)},
		{list(twice, half), list(32767, -32767), list(16383, -16384)},
		{list(half, twice), list(32767, -32767), list(32766, -32767)},
		{list(late, late, late), list(1, 2, 3, 4, 5), list(0, 0, 0, 1, 2)},
		{slices.Repeat(list(twice), section.MaxSections), list(1, -100, 200), list(256, -25600, 32767)},
	} {
		want(t, "Cascade", x.out)(section.Cascade(x.l, x.in))
	}
	next := random(13)
	for range 200 {
		var l []section.Section
		for range next(0, section.MaxSections) {
			l = append(l, drawnSection(next))
		}
		in := draw(next, next(0, 20), section.MaxValue)
		out := in
		for _, s := range l {
			out = counted(s, section.State{}, out).outputs[2:]
		}
		want(t, "Cascade", out)(section.Cascade(l, in))
	}
	most := slices.Repeat([]int{7, -7}, section.MaxInput/2)
	want(t, "the longest Cascade", most)(section.Cascade(slices.Repeat(list(filter(1, 0, 0, 0)), section.MaxSections), most))
}

// P5.1: Saturations counts outputs beyond the limits, not at them.
func TestSaturations(t *testing.T) {
	for _, x := range []struct {
		s  section.Section
		in []int
		n  int
	}{
		{filter(30000, 0, 0, 0), list(1), 0},
		{filter(30000, 0, 0, 0), list(1, 2, -1, -2, 0), 2},
		{filter(32767, 0, 0, 0), list(1, -1, 1, -1), 0},
		{filter(2, 0, 0, 0), list(16383, 16384, -16383, -16384), 2},
		{filter(32767, 1, 0, 0), list(1, 1, 0, -1, -1), 2},
		// 65535 / 2 is 32767, rounded down, and -65535 / 2 is -32768.
		{filter(2, 1, 0, 1), list(1, 32767), 0},
		{filter(2, 1, 0, 1), list(-1, -32767), 1},
		{exampleS, list(32767, 32767, -32767), 1},
		{exampleS, nil, 0},
		{filter(2, 0, 0, 0), slices.Repeat([]int{32767}, section.MaxInput), section.MaxInput},
	} {
		want(t, "Saturations", x.n)(section.Saturations(x.s, x.in))
	}
}

// P5.1: the errors of arguments, from left to right, and nothing beside them.
func TestWrongSteps(t *testing.T) {
	stepFails := func(s section.Section, x section.State, input int) {
		t.Helper()
		output, behind, e := section.Step(s, x, input)
		same(t, "Step", []any{output, behind, e}, []any{0, section.State{}, api.ErrRange})
	}
	runFails := func(s section.Section, l []int, e api.Errno) {
		t.Helper()
		fails[[]int](t, "Run", e)(section.Run(s, l))
		fails[int](t, "Saturations", e)(section.Saturations(s, l))
	}
	fromFails := func(s section.Section, x section.State, l []int, wanted api.Errno) {
		t.Helper()
		out, behind, e := section.From(s, x, l)
		same(t, "From", []any{out, behind, e}, []any{[]int{}, section.State{}, wanted})
	}
	good, tooMany := outputs(1, 2), make([]int, section.MaxInput+1)
	for _, s := range wrongSections() {
		stepFails(s, good, 1)
		runFails(s, list(1), api.ErrRange)
		runFails(s, tooMany, api.ErrRange)
		fromFails(s, good, list(1), api.ErrRange)
		fromFails(s, good, tooMany, api.ErrRange)
		fails[[]int](t, "Impulse", api.ErrRange)(section.Impulse(s, 1, 1))
	}
	for _, x := range wrongStates() {
		stepFails(exampleS, x, 1)
		fromFails(exampleS, x, nil, api.ErrRange)
		fromFails(exampleS, x, tooMany, api.ErrRange)
	}
	for _, n := range wrongValues {
		stepFails(exampleS, good, n)
		fails[[]int](t, "Impulse", api.ErrRange)(section.Impulse(exampleS, n, 1))
		fails[[]int](t, "Impulse", api.ErrRange)(section.Impulse(exampleS, n, 0))
		fails[[]int](t, "Impulse", api.ErrRange)(section.Impulse(exampleS, 1, n))
	}
	for _, n := range []int{-1, section.MaxInput + 1} {
		fails[[]int](t, "Impulse", api.ErrRange)(section.Impulse(exampleS, 1, n))
	}
	for _, x := range wrongSignals() {
		runFails(exampleS, x.l, x.e)
		fromFails(exampleS, good, x.l, x.e)
		for _, l := range [][]section.Section{nil, list(exampleS, exampleS)} {
			fails[[]int](t, "Cascade", x.e)(section.Cascade(l, x.l))
		}
		for _, l := range wrongLists() {
			fails[[]int](t, "Cascade", l.e)(section.Cascade(l.l, x.l))
		}
	}
	for _, l := range wrongLists() {
		fails[[]int](t, "Cascade", l.e)(section.Cascade(l.l, nil))
	}
}
