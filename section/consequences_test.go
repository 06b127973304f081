package section_test

import (
	"fmt"
	"math"
	"slices"
	"testing"

	"woofer/api"
	"woofer/section"
)

// P5.5: a run goes on from the state behind its begin.
func TestRunsGoOn(t *testing.T) {
	next := random(31)
	for _, s := range someSections() {
		x, l := drawnState(next), draw(next, next(0, 20), section.MaxValue)
		cut := next(0, len(l))
		all, behind, e := section.From(s, x, l)
		same(t, "From", e, api.OK)
		begin, between, e := section.From(s, x, l[:cut])
		same(t, "From", e, api.OK)
		rest, last, e := section.From(s, between, l[cut:])
		same(t, "From", []any{slices.Concat(begin, rest), last, e}, []any{all, behind, api.OK})
		one := x
		for i, input := range l {
			output, after, e := section.Step(s, one, input)
			same(t, "Step", []any{output, e}, []any{all[i], api.OK})
			one = after
		}
		same(t, "the state behind all steps", one, behind)
		run, _, e := section.From(s, section.State{}, l)
		want(t, "Run", run)(section.Run(s, l))
		same(t, "From", e, api.OK)
	}
}

// P5.5, P6: a cascade is its sections one after the other, wherever it is cut.
func TestCascadesAreSections(t *testing.T) {
	next := random(37)
	for range 200 {
		var l []section.Section
		for range next(0, section.MaxSections) {
			l = append(l, drawnSection(next))
		}
		in := draw(next, next(0, 20), section.MaxValue)
		out := in
		for _, s := range l {
			out = of[[]int](t)(section.Run(s, out))
		}
		want(t, "Cascade", out)(section.Cascade(l, in))
		cut := next(0, len(l))
		first := of[[]int](t)(section.Cascade(l[:cut], in))
		want(t, "Cascade of a cascade", out)(section.Cascade(l[cut:], first))
	}
}

// P5.5: with the shift 0, and without limits, sections are linear and go with delays.
func TestSectionsAreLinear(t *testing.T) {
	next := random(41)
	checked := 0
	for range 500 {
		s := back(filter(next(-9, 9), next(-9, 9), next(-9, 9), 0), next(-1, 1), next(-1, 1))
		n := next(1, 12)
		a, b, factor := draw(next, n, 20), draw(next, n, 20), next(-5, 5)
		sum := make([]int, n)
		for i := range sum {
			sum[i] = a[i] + factor*b[i]
		}
		isLimited := false
		for _, l := range [][]int{a, b, sum} {
			isLimited = isLimited || of[int](t)(section.Saturations(s, l)) > 0
		}
		if isLimited {
			continue
		}
		checked++
		ofA, ofB := of[[]int](t)(section.Run(s, a)), of[[]int](t)(section.Run(s, b))
		wanted := make([]int, n)
		for i := range wanted {
			wanted[i] = ofA[i] + factor*ofB[i]
		}
		want(t, "Run of a sum", wanted)(section.Run(s, sum))
		late := make([]int, next(0, 5))
		want(t, "Run of a delay", slices.Concat(late, ofA))(section.Run(s, slices.Concat(late, a)))
	}
	same(t, "enough sections", checked > 200, true)
}

// P5.5, P6: no output passes the bound; inputs of the greatest value with the best signs come near to it.
func TestBoundHolds(t *testing.T) {
	next := random(43)
	reached := 0
	for range 500 {
		s, most := drawnContractive(next), list(1, 9, section.MaxValue)[next(0, 2)]
		bound := of[int](t)(section.Bound(s, most))
		l := draw(next, 60, most)
		if next(0, 1) == 0 {
			for i := range l {
				l[i] = most * (next(0, 1)*2 - 1)
			}
		}
		for _, y := range of[[]int](t)(section.Run(s, l)) {
			same(t, "an output within the bound", max(y, -y) <= bound, true)
			if max(y, -y) == bound && bound > 0 {
				reached++
			}
		}
	}
	same(t, "enough outputs reach the bound", reached > 20, true)
}

// P5.5: in a cycle of a contractive section no output, times what its taps leave of the unit, reaches the unit.
func TestCyclesAreSmall(t *testing.T) {
	next := random(47)
	moving := 0
	for range 1000 {
		s, x := drawnContractive(next), drawnState(next)
		n, p, e := section.Settle(s, x)
		if e != api.OK {
			same(t, "Settle", e, api.ErrLimit)
			continue
		}
		_, at, _ := section.From(s, x, make([]int, n))
		cycle, end, e := section.From(s, at, make([]int, p))
		same(t, "the state behind a cycle", []any{end, e}, []any{at, api.OK})
		unit := 1 << s.Shift
		rest := unit - max(s.A1, -s.A1) - max(s.A2, -s.A2)
		for _, y := range cycle {
			same(t, "a small output", max(y, -y)*rest < unit, true)
			if y != 0 {
				moving++
			}
		}
	}
	same(t, "enough outputs in cycles", moving > 100, true)
}

// P5.5: a section that keeps all information is undone.
func TestKeepersAreUndone(t *testing.T) {
	next := random(53)
	checked := 0
	for range 1000 {
		s, l := drawnKeeper(next), draw(next, next(0, 20), list(3, 300, section.MaxValue)[next(0, 2)])
		if of[int](t)(section.Saturations(s, l)) > 0 {
			continue
		}
		want(t, "Undo", l)(section.Undo(s, of[[]int](t)(section.Run(s, l))))
		checked++
	}
	same(t, "enough sections", checked > 300, true)
}

// P5.5: a section with the taps of the input alone has come to rest after at most four steps.
func TestInputTapsRest(t *testing.T) {
	next := random(59)
	count := map[int]int{}
	for range 500 {
		s, x := back(drawnSection(next), 0, 0), drawnState(next)
		n, p, e := section.Settle(s, x)
		same(t, "Settle", []any{n <= 4, p, e}, []any{true, 1, api.OK})
		_, behind, e := section.From(s, x, make([]int, n))
		same(t, "at rest", []any{behind, e}, []any{section.State{}, api.OK})
		count[n]++
	}
	same(t, "enough sections that need four steps", count[4] > 100, true)
}

// P5.5: sections are parsed as they were printed, and unpacked as they were packed.
func TestSectionsComeBack(t *testing.T) {
	l := someSections()
	for i := range l {
		some := l[i:min(i+i%9, len(l))]
		parses(t, of[string](t)(section.Print(some)), some)
		want(t, "Unpack", some)(section.Unpack(of[[]int](t)(section.Pack(some))))
	}
}

// P5.1 to P5.4, the rule Memory: arguments are not modified, and results share no memory with them or with each other.
func TestMemory(t *testing.T) {
	l, in, keeper, packed := list(exampleS, filter(1, 2, 1, 2)), list(8, -8, 5), filter(2, 1, 0, 1), list(4, 0, 0, -2, 0, 2)
	results := func() (text string, change func()) {
		run := of[[]int](t)(section.Run(exampleS, in))
		from, _, _ := section.From(filter(1, 0, 0, 0), section.State{}, in)
		impulse := of[[]int](t)(section.Impulse(exampleS, 8, 3))
		cascade := of[[]int](t)(section.Cascade(l, in))
		bare := of[[]int](t)(section.Cascade(nil, in))
		undone := of[[]int](t)(section.Undo(keeper, in))
		flat := of[[]int](t)(section.Pack(l))
		sections := of[[]section.Section](t)(section.Unpack(packed))
		section.Saturations(exampleS, in)
		section.Nearest(l, exampleS)
		section.Print(l)
		return fmt.Sprint(run, from, impulse, cascade, bare, undone, flat, sections), func() {
			for _, x := range [][]int{run, from, impulse, cascade, bare, undone, flat} {
				same(t, "results do not share memory", slices.Contains(x, 77), false)
				x[0], x[1], x[2] = 77, 77, 77
			}
			sections[0].B0 = 77
		}
	}
	before := fmt.Sprint(l, in, packed)
	wanted, change := results()
	same(t, "arguments", fmt.Sprint(l, in, packed), before)
	change()
	same(t, "arguments behind a change of results", fmt.Sprint(l, in, packed), before)
	text, _ := results()
	same(t, "results behind it", text, wanted)
}

// P1: no function panics, whatever its arguments are.
func TestNothingPanics(t *testing.T) {
	numbers := []int{math.MinInt, math.MinInt32, -32768, -1, 0, 1, 2, 15, 16, 64, 32768, math.MaxInt32, math.MaxInt}
	for _, a := range numbers {
		for _, b := range numbers {
			wrong := section.Section{B0: a, B1: b, B2: a, A1: b, A2: a, Shift: b}
			for _, s := range []section.Section{wrong, {Shift: a}, {B0: 1, Shift: b}, back(exampleS, a, b), {A1: 1, A2: -1, Shift: b}, exampleS} {
				for _, x := range []section.State{{}, {X1: a, X2: b, Y1: a, Y2: b}, outputs(1, b)} {
					section.CheckState(x)
					section.Step(s, x, a)
					section.From(s, x, numbers)
					section.From(s, x, list(1))
					section.Settle(s, x)
				}
				for _, l := range [][]section.Section{nil, list(s), list(exampleS, s)} {
					section.Cascade(l, list(a, b))
					section.Cascade(l, nil)
					section.Nearest(l, s)
					section.Nearest(l, exampleS)
					section.Pack(l)
					section.Print(l)
				}
				section.CheckSection(s)
				section.Run(s, list(a, b))
				section.Impulse(s, a, b)
				section.Impulse(s, 1, b)
				section.Saturations(s, list(b, a))
				section.Contractive(s)
				section.Stable(s)
				section.Bound(s, a)
				section.Response(s, b)
				section.Delay(s)
				section.Mirror(s)
				section.Undo(s, list(a, b))
				section.Undo(s, nil)
			}
			section.Unpack(list(a, b, a, b, a, b))
			section.Unpack(list(a, b))
		}
	}
	section.Unpack(nil)
	section.Parse("\xff \x00 1 2 3 4\n\n")
}
