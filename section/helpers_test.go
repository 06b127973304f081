package section_test

import (
	"fmt"
	"math"
	"slices"
	"testing"

	"woofer/api"
	"woofer/section"
)

// same compares a result with the expected one; printed, nil and the empty list are equal.
func same(t *testing.T, what string, got, wanted any) {
	t.Helper()
	if g, w := fmt.Sprint(got), fmt.Sprint(wanted); g != w {
		t.Errorf("%s: got %s, want %s", what, short(g), short(w))
	}
}

func short(s string) string {
	if len(s) > 200 {
		return s[:200] + ".."
	}
	return s
}

// want requires a result without an error.
func want[T any](t *testing.T, what string, wanted T) func(T, api.Errno) {
	return func(got T, e api.Errno) {
		t.Helper()
		same(t, what+": error", e, api.OK)
		same(t, what, got, wanted)
	}
}

// fails requires an error, and nothing beside it.
func fails[T any](t *testing.T, what string, wanted api.Errno) func(T, api.Errno) {
	return func(got T, e api.Errno) {
		t.Helper()
		var zero T
		same(t, what+": error", e, wanted)
		same(t, what+": beside the error", got, zero)
	}
}

// of requires a result without an error, and returns it.
func of[T any](t *testing.T) func(T, api.Errno) T {
	return func(got T, e api.Errno) T {
		t.Helper()
		same(t, "error", e, api.OK)
		return got
	}
}

// filter returns the section with these taps of the input, and this shift.
func filter(b0, b1, b2, shift int) section.Section {
	return section.Section{B0: b0, B1: b1, B2: b2, Shift: shift}
}

// back returns a section with these taps of the output.
func back(s section.Section, a1, a2 int) section.Section {
	s.A1, s.A2 = a1, a2
	return s
}

// exampleS is the section S of the chapter's examples.
var exampleS = back(filter(4, 0, 0, 2), -2, 0)

// inputs and outputs return the state with the last two inputs, or outputs.
func inputs(x1, x2 int) section.State  { return section.State{X1: x1, X2: x2} }
func outputs(y1, y2 int) section.State { return section.State{Y1: y1, Y2: y2} }

// list returns the list of its elements.
func list[T any](l ...T) []T {
	return l
}

// numbersOf returns the numbers of a section, in the order of its text.
func numbersOf(s *section.Section) []*int {
	return []*int{&s.B0, &s.B1, &s.B2, &s.A1, &s.A2, &s.Shift}
}

// random returns a function that draws integers from least to most.
func random(key int) func(least, most int) int {
	x := key
	return func(least, most int) int {
		x = x * 48271 % 2147483647
		return least + (x>>7)%(most-least+1)
	}
}

// draw returns n integers from -most to most that are drawn.
func draw(next func(least, most int) int, n, most int) []int {
	l := make([]int, n)
	for i := range l {
		l[i] = next(-most, most)
	}
	return l
}

// drawnSection returns a section with all sorts of numbers.
func drawnSection(next func(least, most int) int) section.Section {
	s := section.Section{Shift: next(0, section.MaxShift)}
	most := list(3, 200, section.MaxTap, min(2<<s.Shift, section.MaxTap))[next(0, 3)]
	for _, n := range numbersOf(&s)[:5] {
		*n = next(-most, most)
	}
	return s
}

// drawnContractive returns a contractive section.
func drawnContractive(next func(least, most int) int) section.Section {
	s := drawnSection(next)
	signs := list(-1, 1)
	most := 1<<s.Shift - 1
	a1 := next(0, most)
	a2 := next((most-a1)/2, most-a1)
	return back(s, a1*signs[next(0, 1)], a2*signs[next(0, 1)])
}

// drawnState returns a state with small numbers, or with any ones.
func drawnState(next func(least, most int) int) section.State {
	l := draw(next, 4, list(5, section.MaxValue)[next(0, 1)])
	return section.State{X1: l[0], X2: l[1], Y1: l[2], Y2: l[3]}
}

// someSections returns those of the examples, those with the least and the greatest numbers, and some others.
func someSections() []section.Section {
	const most = section.MaxTap
	l := list(exampleS, filter(1, 2, 1, 2), filter(1, 1, 0, 0), filter(2, 1, 0, 1), filter(30000, 0, 0, 0), section.Section{})
	for _, shift := range []int{0, 1, 14, 15} {
		for bits := range 32 {
			sign := func(bit int) int { return most * (bits>>bit&1*2 - 1) }
			l = append(l, back(filter(sign(0), sign(1), sign(2), shift), sign(3), sign(4)))
		}
	}
	next := random(7)
	for range 200 {
		l = append(l, drawnSection(next), drawnContractive(next))
	}
	return l
}

// wrongSections returns sections with one number that is not in its range; all of them are ErrRange.
func wrongSections() []section.Section {
	var l []section.Section
	for i := range 6 {
		wrong := list(-32768, 32768)
		if i == 5 {
			wrong = list(-1, 16, 64)
		}
		for _, x := range append(wrong, math.MinInt, math.MaxInt, math.MinInt32, math.MaxInt32) {
			s := exampleS
			*numbersOf(&s)[i] = x
			l = append(l, s)
		}
	}
	return append(l, section.Section{B0: 99999, B1: -99999, B2: 99999, A1: 99999, A2: -99999, Shift: 64})
}

// wrongStates returns states with one number that is not in its range; all of them are ErrRange.
func wrongStates() []section.State {
	var l []section.State
	for _, n := range wrongValues {
		l = append(l, section.State{X1: n}, section.State{X2: n}, section.State{Y1: n}, section.State{Y2: n}, section.State{X1: n, X2: n, Y1: n, Y2: n})
	}
	return l
}

// wrongValues are integers that are no inputs.
var wrongValues = []int{-32768, 32768, math.MinInt, math.MaxInt}

// wrongSignal is a signal with its error.
type wrongSignal struct {
	l []int
	e api.Errno
}

func wrongSignals() []wrongSignal {
	l := []wrongSignal{
		{make([]int, section.MaxInput+1), api.ErrMany},
		{slices.Repeat([]int{32768}, section.MaxInput+1), api.ErrMany},
		{append(make([]int, section.MaxInput-1), 32768), api.ErrRange},
	}
	for _, n := range wrongValues {
		l = append(l, wrongSignal{list(n), api.ErrRange}, wrongSignal{list(0, 32767, n, -32767), api.ErrRange})
	}
	return l
}

// wrongList is a list of sections with its error.
type wrongList struct {
	l []section.Section
	e api.Errno
}

func wrongLists() []wrongList {
	l := []wrongList{
		{make([]section.Section, section.MaxSections+1), api.ErrMany},
		{slices.Repeat(wrongSections()[:1], section.MaxSections+1), api.ErrMany},
	}
	for _, s := range wrongSections() {
		l = append(l, wrongList{list(s), api.ErrRange}, wrongList{list(exampleS, s, exampleS), api.ErrRange})
	}
	return l
}
