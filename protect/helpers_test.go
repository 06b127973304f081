package protect_test

import (
	"fmt"
	"math"
	"slices"
	"testing"

	"woofer/api"
	"woofer/protect"
)

type (
	guard = protect.Guard
	state = protect.State
)

// same compares a result with the expected one; printed, nil and the empty list are equal.
func same(t *testing.T, what string, got, wanted any) {
	t.Helper()
	if g, w := fmt.Sprint(got), fmt.Sprint(wanted); g != w {
		t.Errorf("%s: got %s, want %s", what, short(g), short(w))
	}
}

func short(s string) string {
	if len(s) > 300 {
		return s[:300] + ".."
	}
	return s
}

// want requires a result without an error.
func want[T any](t *testing.T, what string, wanted T) func(T, api.Errno) {
	return func(got T, e api.Errno) {
		t.Helper()
		same(t, what+": error", e, api.OK)
		same(t, what, got, wanted)
	}
}

// fails requires an error, and nothing beside it.
func fails[T any](t *testing.T, what string, wanted api.Errno) func(T, api.Errno) {
	return func(got T, e api.Errno) {
		t.Helper()
		var zero T
		same(t, what+": error", e, wanted)
		same(t, what+": beside the error", got, zero)
	}
}

// of requires a result without an error, and returns it.
func of[T any](t *testing.T) func(T, api.Errno) T {
	return func(got T, e api.Errno) T {
		t.Helper()
		same(t, "error", e, api.OK)
		return got
	}
}

// two is two results.
type two struct{ first, second any }

// both returns two results and an error as one result and the error.
func both[A, B any](a A, b B, e api.Errno) (two, api.Errno) {
	return two{a, b}, e
}

// failsBoth requires an error, and nothing beside it.
func failsBoth[A, B any](t *testing.T, what string, wanted api.Errno) func(A, B, api.Errno) {
	return func(a A, b B, e api.Errno) {
		t.Helper()
		fails[A](t, what, wanted)(a, e)
		fails[B](t, what, wanted)(b, e)
	}
}

// list returns the list of its elements.
func list[T any](l ...T) []T {
	return l
}

// repeated returns a list of n equal elements.
func repeated[T any](x T, n int) []T {
	return slices.Repeat([]T{x}, n)
}

// exampleG returns the guard G of the chapter's examples.
func exampleG() guard {
	return guard{Leak: 1, Heat: 100, Taps: list(1, 2), Reach: 20, Gains: list(0, 8, 16)}
}

// free returns a guard with these taps that no output is too loud for, but for its heat.
func free(taps ...int) guard {
	return guard{Leak: 1, Heat: protect.MaxHeat, Taps: taps, Reach: protect.MaxReach, Gains: list(0, 16)}
}

// at returns a state.
func at(heat, level int, past ...int) state {
	return state{Heat: heat, Level: level, Past: past}
}

// random returns a function that draws integers from least to most.
func random(key int) func(least, most int) int {
	x := key
	return func(least, most int) int {
		x = x * 48271 % 2147483647
		return least + (x>>7)%(most-least+1)
	}
}

// draw returns n integers from -most to most that are drawn.
func draw(next func(least, most int) int, n, most int) []int {
	l := make([]int, n)
	for i := range l {
		l[i] = next(-most, most)
	}
	return l
}

// weightOf returns the sum of absolute values.
func weightOf(l []int) int {
	sum := 0
	for _, x := range l {
		sum += max(x, -x)
	}
	return sum
}

// drawnGuard returns a guard that outputs up to loud, or a part of it, are often too loud for.
func drawnGuard(next func(least, most int) int, loud int) guard {
	g := guard{Leak: next(1, protect.MaxLeak), Gains: list(0)}
	g.Heat = min(next(0, 3*loud*loud), protect.MaxHeat)
	g.Taps = draw(next, next(1, protect.MaxTaps), list(1, 9, protect.MaxTap)[next(0, 2)])
	g.Reach = min(next(0, weightOf(g.Taps)*loud), protect.MaxReach)
	for gain := 1; gain <= protect.Unit && len(g.Gains) < protect.MaxGains; gain++ {
		if next(0, 3) == 0 || gain == protect.Unit && next(0, 2) > 0 {
			g.Gains = append(g.Gains, gain)
		}
	}
	return g
}

// drawnState returns a state of a guard with outputs up to loud.
func drawnState(next func(least, most int) int, g guard, loud int) state {
	heat := next(0, min(list(loud, loud*loud, 2*g.Heat, protect.MaxHeat)[next(0, 3)], protect.MaxHeat))
	return at(heat, next(0, len(g.Gains)-1), draw(next, len(g.Taps)-1, loud)...)
}

// someLoud are greatest outputs of drawn signals.
var someLoud = []int{1, 3, 20, 300, protect.MaxValue}

// someGuards returns those of the examples, those with the least and the greatest numbers, and some others.
func someGuards() []guard {
	const most = protect.MaxTap
	l := list(exampleG(), free(0), free(1), free(-1, 0, 2),
		guard{Leak: 1, Taps: list(0), Gains: list(0)},
		guard{Leak: 8, Heat: protect.MaxHeat, Taps: repeated(most, 8), Reach: protect.MaxReach, Gains: list(0, 1, 2, 3, 4, 5, 6, 7)},
		guard{Leak: 8, Heat: protect.MaxHeat, Taps: repeated(-most, 8), Reach: 0, Gains: list(0, 10, 11, 12, 13, 14, 15, 16)},
	)
	next := random(5)
	for range 40 {
		for _, loud := range someLoud {
			l = append(l, drawnGuard(next, loud))
		}
	}
	return l
}

// wrongGuard is a guard with its error.
type wrongGuard struct {
	g guard
	e api.Errno
}

// wrong are integers that are beyond any limit.
var wrong = []int{math.MinInt, math.MinInt32, 1 << 30, math.MaxInt}

// faults returns guards that differ in one field from that of the example, which has an error: those of the same field in
// one list, and the fields in the order in which they are examined.
func faults() [][]wrongGuard {
	leaks, heats := list(0, 9, -1, 64), list(-1, protect.MaxHeat+1)
	reaches := list(-1, protect.MaxReach+1)
	all := make([][]wrongGuard, 5)
	add := func(field int, e api.Errno, change func(g *guard)) {
		g := exampleG()
		change(&g)
		all[field] = append(all[field], wrongGuard{g, e})
	}
	for _, n := range append(leaks, wrong...) {
		add(0, api.ErrRange, func(g *guard) { g.Leak = n })
	}
	for _, n := range append(heats, wrong...) {
		add(1, api.ErrRange, func(g *guard) { g.Heat = n })
	}
	for _, n := range append(wrong, protect.MaxTap+1, -protect.MaxTap-1) {
		for i := range protect.MaxTaps {
			taps := make([]int, protect.MaxTaps)
			taps[i] = n
			add(2, api.ErrRange, func(g *guard) { g.Taps = taps })
		}
		add(2, api.ErrRange, func(g *guard) { g.Taps = list(n) })
		add(2, api.ErrMany, func(g *guard) { g.Taps = repeated(n, protect.MaxTaps+1) })
	}
	add(2, api.ErrEmpty, func(g *guard) { g.Taps = nil })
	add(2, api.ErrMany, func(g *guard) { g.Taps = make([]int, protect.MaxTaps+1) })
	for _, n := range append(reaches, wrong...) {
		add(3, api.ErrRange, func(g *guard) { g.Reach = n })
	}
	for _, x := range wrongGains() {
		add(4, x.e, func(g *guard) { g.Gains = x.l })
	}
	return all
}

// wrongList is a list with its error.
type wrongList struct {
	l []int
	e api.Errno
}

// wrongGains returns gains with an error; the first one that has an error decides.
func wrongGains() []wrongList {
	l := []wrongList{
		{nil, api.ErrEmpty},
		{list(0, 1, 2, 3, 4, 5, 6, 7, 8), api.ErrMany},
		{repeated(-1, 9), api.ErrMany},
		{make([]int, 300), api.ErrMany},
		{list(1), api.ErrOrder},
		{list(16), api.ErrOrder},
		{list(1, 17), api.ErrOrder},
		{list(8, 0, 16), api.ErrOrder},
		{list(-1), api.ErrRange},
		{list(-1, 0), api.ErrRange},
		{list(17), api.ErrRange},
		{list(0, 17), api.ErrRange},
		{list(0, -1), api.ErrRange},
		{list(0, 0), api.ErrOrder},
		{list(0, 16, 16), api.ErrOrder},
		{list(0, 8, 7), api.ErrOrder},
		{list(0, 8, 7, 17), api.ErrOrder},
		{list(0, 8, 17, 7), api.ErrRange},
		{list(0, 1, 2, 3, 4, 5, 6, 6), api.ErrOrder},
		{list(0, 1, 2, 3, 4, 5, 6, 17), api.ErrRange},
	}
	for _, n := range wrong {
		l = append(l, wrongList{list(n), api.ErrRange}, wrongList{list(0, 5, n), api.ErrRange}, wrongList{list(0, 5, 4, n), api.ErrOrder})
	}
	return l
}

// merged returns a guard with the field of another one in place of its own.
func merged(g guard, field int, x guard) guard {
	switch field {
	case 0:
		g.Leak = x.Leak
	case 1:
		g.Heat = x.Heat
	case 2:
		g.Taps = x.Taps
	case 3:
		g.Reach = x.Reach
	case 4:
		g.Gains = x.Gains
	}
	return g
}

// wrongGuards returns guards with one error, and with one of each pair of fields.
func wrongGuards() []wrongGuard {
	var l []wrongGuard
	all := faults()
	for i, first := range all {
		l = append(l, first...)
		for k := i + 1; k < len(all); k++ {
			for n := range max(len(first), len(all[k])) {
				x, y := first[n%len(first)], all[k][n%len(all[k])]
				l = append(l, wrongGuard{merged(x.g, k, y.g), x.e})
			}
		}
	}
	return l
}

// wrongState is a state of G with its error.
type wrongState struct {
	s state
	e api.Errno
}

// wrongStates returns states that are none of G, in whose errors the order counts.
func wrongStates() []wrongState {
	l := []wrongState{
		{at(-1, 0, 0), api.ErrRange},
		{at(protect.MaxHeat+1, 0, 0), api.ErrRange},
		{at(0, -1, 0), api.ErrRange},
		{at(0, 3, 0), api.ErrRange},
		{at(0, 0), api.ErrShape},
		{at(0, 0, 0, 0), api.ErrShape},
		{at(0, 0, repeated(9999, 9)...), api.ErrShape},
		{at(0, 0, make([]int, 9999)...), api.ErrShape},
		{at(-1, 0), api.ErrRange},
		{at(0, 3), api.ErrRange},
		{at(0, 0, 2049), api.ErrRange},
		{at(0, 0, -2049), api.ErrRange},
	}
	for _, n := range wrong {
		l = append(l, wrongState{at(n, 0, 0), api.ErrRange}, wrongState{at(0, n, 0), api.ErrRange}, wrongState{at(0, 0, n), api.ErrRange})
		l = append(l, wrongState{at(n, n), api.ErrRange}, wrongState{at(0, 0, n, n), api.ErrShape})
	}
	return l
}

// wrongValues are integers that are no inputs and no outputs.
var wrongValues = append([]int{-protect.MaxValue - 1, protect.MaxValue + 1}, wrong...)

// wrongSignals returns lists that are no signals.
func wrongSignals() []wrongList {
	const longest = protect.MaxInput
	l := []wrongList{
		{make([]int, longest+1), api.ErrMany},
		{repeated(protect.MaxValue+1, longest+1), api.ErrMany},
		{append(make([]int, longest-1), protect.MaxValue+1), api.ErrRange},
		{append(list(-protect.MaxValue-1), make([]int, longest-1)...), api.ErrRange},
	}
	for _, n := range wrongValues {
		l = append(l, wrongList{list(n), api.ErrRange}, wrongList{list(0, protect.MaxValue, n, -protect.MaxValue), api.ErrRange})
	}
	return l
}
