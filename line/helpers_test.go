package line_test

import (
	"fmt"
	"math"
	"slices"
	"strconv"
	"strings"
	"testing"

	"woofer/api"
	"woofer/line"
)

type (
	unit = line.Unit
	mask = line.Mask
	plan = line.Plan
)

// same compares a result with the expected one; printed, nil and the empty list are equal.
func same(t *testing.T, what string, got, wanted any) {
	t.Helper()
	if g, w := fmt.Sprint(got), fmt.Sprint(wanted); g != w {
		t.Errorf("%s: got %s, want %s", what, short(g), short(w))
	}
}

func short(s string) string {
	if len(s) > 300 {
		return s[:300] + ".."
	}
	return s
}

// want requires a result without an error.
func want[T any](t *testing.T, what string, wanted T) func(T, api.Errno) {
	return func(got T, e api.Errno) {
		t.Helper()
		same(t, what+": error", e, api.OK)
		same(t, what, got, wanted)
	}
}

// fails requires an error, and nothing beside it.
func fails[T any](t *testing.T, what string, wanted api.Errno) func(T, api.Errno) {
	return func(got T, e api.Errno) {
		t.Helper()
		var zero T
		same(t, what+": error", e, wanted)
		same(t, what+": beside the error", got, zero)
	}
}

// of requires a result without an error, and returns it.
func of[T any](t *testing.T) func(T, api.Errno) T {
	return func(got T, e api.Errno) T {
		t.Helper()
		same(t, "error", e, api.OK)
		return got
	}
}

// two is two results.
type two struct{ first, second any }

// both returns two results and an error as one result and the error.
func both[A, B any](a A, b B, e api.Errno) (two, api.Errno) {
	return two{a, b}, e
}

// failsBoth requires an error, and nothing beside it.
func failsBoth[A, B any](t *testing.T, what string, wanted api.Errno) func(A, B, api.Errno) {
	return func(a A, b B, e api.Errno) {
		t.Helper()
		fails[A](t, what, wanted)(a, e)
		fails[B](t, what, wanted)(b, e)
	}
}

// list returns the list of its elements.
func list[T any](l ...T) []T {
	return l
}

// repeated returns a list of n equal elements.
func repeated[T any](x T, n int) []T {
	return slices.Repeat([]T{x}, n)
}

func ratio(num, den int) api.Ratio {
	return api.Ratio{Num: num, Den: den}
}

// measured returns a unit.
func measured(serial string, values ...int) unit {
	return unit{Serial: serial, Values: values}
}

// exampleU returns the units U of the chapter's examples.
func exampleU() []unit {
	return list(measured("a", 10, 20), measured("b", 12, 20), measured("c", 11, 26), measured("d", 30, 20))
}

// between returns the mask with the least and the greatest values one after the other.
func between(limits ...int) mask {
	var m mask
	for x := range slices.Chunk(limits, 2) {
		m.Least, m.Most = append(m.Least, x[0]), append(m.Most, x[1])
	}
	return m
}

// exampleM returns the mask of the chapter's examples that is learned from a and b.
func exampleM() mask {
	return between(9, 13, 19, 21)
}

// planOf returns a plan.
func planOf(lot, sample, accept int) plan {
	return plan{Lot: lot, Sample: sample, Accept: accept}
}

// random returns a function that draws integers from least to most.
func random(key int) func(least, most int) int {
	x := key
	return func(least, most int) int {
		x = x * 48271 % 2147483647
		return least + (x>>7)%(most-least+1)
	}
}

// draw returns n integers from least to most that are drawn.
func draw(next func(least, most int) int, n, least, most int) []int {
	l := make([]int, n)
	for i := range l {
		l[i] = next(least, most)
	}
	return l
}

// numbered returns n units, each with the values that values returns for its index.
func numbered(n int, values func(i int) []int) []unit {
	l := make([]unit, n)
	for i := range l {
		l[i] = measured("u"+strconv.Itoa(i), values(i)...)
	}
	return l
}

// drawnUnits returns n units with values up to loud for a number of tests.
func drawnUnits(next func(least, most int) int, n, tests, loud int) []unit {
	return numbered(n, func(int) []int { return draw(next, tests, -loud, loud) })
}

// someUnits returns lists of at most MaxExact units: those of the examples, those with the least and the greatest values,
// and drawn ones, in which many differences are alike.
func someUnits() [][]unit {
	const most = line.MaxValue
	all := list(nil, exampleU(), exampleU()[:2], exampleU()[:1],
		numbered(8, func(i int) []int { return list(most * (1 - i%2*2)) }),
		numbered(8, func(i int) []int { return list(most * (1 - i/5*2)) }),
		numbered(6, func(i int) []int { return repeated(7, line.MaxTests) }),
		numbered(8, func(i int) []int { return list(i * i) }),
		star(7), star(5),
	)
	next := random(3)
	for n := range api.MaxExact + 1 {
		for _, loud := range []int{1, 2, 5, 30, most} {
			for range 4 {
				all = append(all, drawnUnits(next, n, next(1, 4), loud))
			}
		}
	}
	return all
}

// star returns a unit and n others: the difference of the first one to each other one is 10, and that of two others 20.
func star(n int) []unit {
	return numbered(n+1, func(i int) []int {
		values := repeated(-10, n)
		if i == 0 {
			return make([]int, n)
		}
		values[i-1] = 10
		return values
	})
}

// wrong are integers that are beyond any limit.
var wrong = []int{math.MinInt, math.MinInt32, 1 << 30, math.MaxInt}

// wrongValues are integers that are no values of units.
var wrongValues = append([]int{-line.MaxValue - 1, line.MaxValue + 1}, wrong...)

// wrongMargins are integers that are no margins and no guards.
var wrongMargins = append([]int{-1, -line.MaxValue, line.MaxValue + 1}, wrong...)

// wrongUnit is a unit with its error.
type wrongUnit struct {
	u unit
	e api.Errno
}

// wrongUnits returns units with one error, and with several ones.
func wrongUnits() []wrongUnit {
	l := []wrongUnit{
		{measured("a"), api.ErrEmpty},
		{measured("a", make([]int, line.MaxTests+1)...), api.ErrMany},
		{measured("a", repeated(line.MaxValue+1, line.MaxTests+1)...), api.ErrMany},
		{measured("a", make([]int, 9999)...), api.ErrMany},
		{measured("a", append(make([]int, line.MaxTests-1), line.MaxValue+1)...), api.ErrRange},
	}
	for _, s := range []string{"", "1", "_a", "9a", "a b", " a", "a-", "ä", "a\n", "\xff", strings.Repeat("a", api.MaxName+1)} {
		l = append(l,
			wrongUnit{measured(s, 1, 2), api.ErrName},
			wrongUnit{measured(s), api.ErrName},
			wrongUnit{measured(s, make([]int, line.MaxTests+1)...), api.ErrName},
			wrongUnit{measured(s, line.MaxValue+1, 0), api.ErrName},
		)
	}
	for _, n := range wrongValues {
		l = append(l, wrongUnit{measured("a", n), api.ErrRange}, wrongUnit{measured("a", 0, n), api.ErrRange}, wrongUnit{measured("a", n, 1, 2), api.ErrRange})
	}
	return l
}

// wrongList is a list of units with its error.
type wrongList struct {
	l []unit
	e api.Errno
}

// wrongLists returns lists of units with an error; the first unit that has an error decides.
func wrongLists() []wrongList {
	good := numbered(3, func(i int) []int { return list(i, -i) })
	many := numbered(line.MaxUnits+1, func(int) []int { return list(0, 0) })
	l := []wrongList{
		{many, api.ErrMany},
		{repeated(unit{}, line.MaxUnits+1), api.ErrMany},
		{repeated(good[0], 999), api.ErrMany},
		{repeated(good[0], line.MaxUnits), api.ErrTwice},
		{append(slices.Clone(many[:line.MaxUnits-1]), many[0]), api.ErrTwice},
		{append(slices.Clone(many[:line.MaxUnits-1]), unit{}), api.ErrName},
		{list(good[0], good[1], good[0]), api.ErrTwice},
		{list(good[0], good[1], good[1]), api.ErrTwice},
		{list(good[0], good[0], unit{}), api.ErrTwice},
		{list(good[0], good[0], measured("u2", 1)), api.ErrTwice},
		{list(good[0], measured("u1", 1)), api.ErrShape},
		{list(good[0], measured("u1", 1, 2, 3)), api.ErrShape},
		{list(good[0], measured("u0", 1)), api.ErrShape},
		{list(good[0], measured("u1", 1), unit{}), api.ErrShape},
		{list(good[0], measured("u1", 1), good[0]), api.ErrShape},
		{list(good[0], measured("u1", line.MaxValue+1)), api.ErrRange},
		{list(measured("u0", 1), good[1], good[2]), api.ErrShape},
	}
	for _, x := range wrongUnits() {
		l = append(l,
			wrongList{list(x.u), x.e},
			wrongList{append(slices.Clone(good), x.u), x.e},
			wrongList{list(good[0], x.u, good[0]), x.e},
			wrongList{list(x.u, good[0], measured("u1", 1)), x.e},
		)
	}
	return l
}

// wrongMask is a mask with its error.
type wrongMask struct {
	m mask
	e api.Errno
}

// wrongMasks returns masks with an error; the first test that has an error decides.
func wrongMasks() []wrongMask {
	const most = line.MaxValue
	zeros := make([]int, line.MaxTests+1)
	l := []wrongMask{
		{mask{}, api.ErrEmpty},
		{mask{Most: list(1)}, api.ErrEmpty},
		{mask{Least: zeros, Most: zeros}, api.ErrMany},
		{mask{Least: zeros}, api.ErrMany},
		{mask{Least: repeated(most+1, 17), Most: zeros}, api.ErrMany},
		{mask{Least: list(1)}, api.ErrShape},
		{mask{Least: list(1), Most: list(1, 2)}, api.ErrShape},
		{mask{Least: list(1, 2), Most: list(1)}, api.ErrShape},
		{mask{Least: zeros[1:], Most: zeros}, api.ErrShape},
		{mask{Least: list(most + 1), Most: list(0, 0)}, api.ErrShape},
		{between(2, 1), api.ErrOrder},
		{between(most, -most), api.ErrOrder},
		{between(most+1, -most), api.ErrRange},
		{between(2, 1, most+1, 0), api.ErrOrder},
		{between(0, most+1, 2, 1), api.ErrRange},
		{between(0, 1, 2, 3, 5, 4), api.ErrOrder},
		{between(append(make([]int, 2*line.MaxTests-2), 1, 0)...), api.ErrOrder},
		{between(append(make([]int, 2*line.MaxTests-2), 1, most+1)...), api.ErrRange},
	}
	for _, n := range wrongValues {
		l = append(l, wrongMask{between(n, n), api.ErrRange}, wrongMask{between(n, 0), api.ErrRange}, wrongMask{between(0, n), api.ErrRange}, wrongMask{between(1, 2, 0, n, 2, 1), api.ErrRange})
	}
	return l
}
