package chamber_test

import (
	"fmt"
	"math"
	"slices"
	"testing"

	"woofer/api"
	"woofer/chamber"
	"woofer/signal"
)

const (
	level   = signal.MaxLevel
	longest = chamber.MaxResponse
)

// same compares a result with the expected one; printed, nil and the empty list are equal.
func same(t *testing.T, what string, got, wanted any) {
	t.Helper()
	if g, w := fmt.Sprint(got), fmt.Sprint(wanted); g != w {
		t.Errorf("%s: got %s, want %s", what, short(g), short(w))
	}
}

func short(s string) string {
	if len(s) > 300 {
		return s[:300] + ".."
	}
	return s
}

// want requires a result without an error.
func want[T any](t *testing.T, what string, wanted T) func(T, api.Errno) {
	return func(got T, e api.Errno) {
		t.Helper()
		same(t, what+": error", e, api.OK)
		same(t, what, got, wanted)
	}
}

// fails requires an error, and nothing beside it.
func fails[T any](t *testing.T, what string, wanted api.Errno) func(T, api.Errno) {
	return func(got T, e api.Errno) {
		t.Helper()
		var zero T
		same(t, what+": error", e, wanted)
		same(t, what+": beside the error", got, zero)
	}
}

// of requires a result without an error, and returns it.
func of[T any](t *testing.T) func(T, api.Errno) T {
	return func(got T, e api.Errno) T {
		t.Helper()
		same(t, "error", e, api.OK)
		return got
	}
}

// two is two results.
type two struct{ first, second any }

// both returns a function that takes two results and an error as one result and the error.
func both[A, B any](a A, b B, e api.Errno) (two, api.Errno) {
	return two{a, b}, e
}

// failsBoth requires an error, and nothing beside it.
func failsBoth[A, B any](t *testing.T, what string, wanted api.Errno) func(A, B, api.Errno) {
	return func(a A, b B, e api.Errno) {
		t.Helper()
		fails[A](t, what, wanted)(a, e)
		fails[B](t, what, wanted)(b, e)
	}
}

// list returns the list of its elements.
func list[T any](l ...T) []T {
	return l
}

// repeated returns a list of n equal elements.
func repeated[T any](x T, n int) []T {
	return slices.Repeat([]T{x}, n)
}

// ratio returns a ratio.
func ratio(num, den int) api.Ratio {
	return api.Ratio{Num: num, Den: den}
}

// exampleH returns the response H of the chapter's examples.
func exampleH() []int {
	return list(3, -1)
}

// pairLengths are the lengths of complementary pairs.
var pairLengths = []int{1, 2, 4, 8, 16, 32, 64}

// random returns a function that draws integers from least to most.
func random(key int) func(least, most int) int {
	x := key
	return func(least, most int) int {
		x = x * 48271 % 2147483647
		return least + (x>>7)%(most-least+1)
	}
}

// draw returns n integers from -most to most that are drawn.
func draw(next func(least, most int) int, n, most int) []int {
	l := make([]int, n)
	for i := range l {
		l[i] = next(-most, most)
	}
	return l
}

// drawSome returns n lists of the same length.
func drawSome(next func(least, most int) int, n, length, most int) [][]int {
	l := make([][]int, n)
	for i := range l {
		l[i] = draw(next, length, most)
	}
	return l
}

// drawSamples returns n samples that are multiples of 1/16, from -most to most sixteenths.
func drawSamples(next func(least, most int) int, n, most int) []float32 {
	l := make([]float32, n)
	for i := range l {
		l[i] = float32(next(-most, most)) / 16
	}
	return l
}

// someResponses returns those of the examples, those with the greatest numbers, and some others.
func someResponses() [][]int {
	l := [][]int{nil, exampleH(), {0, 5, -3, 1}, {0}, {0, 0, 0}, {level}, {-level}, repeated(level, longest), repeated(-level, longest), make([]int, longest)}
	next := random(11)
	for range 40 {
		l = append(l, draw(next, next(1, 6), 2), draw(next, next(0, 40), 100), draw(next, next(1, longest), level))
	}
	return append(l, draw(next, longest, level), draw(next, longest, 1))
}

// wrongList is a list with its error.
type wrongList struct {
	l []int
	e api.Errno
}

// wrongNumbers are integers that are beyond those of a sequence.
var wrongNumbers = []int{-level - 1, level + 1, math.MinInt32, math.MaxInt32, math.MinInt, math.MaxInt}

// wrongLists returns lists of integers of which at most so many are permitted.
func wrongLists(most int) []wrongList {
	l := []wrongList{
		{make([]int, most+1), api.ErrMany},
		{repeated(level+1, most+1), api.ErrMany},
		{append(make([]int, most-1), -level-1), api.ErrRange},
		{append([]int{level + 1}, make([]int, most-1)...), api.ErrRange},
	}
	for _, n := range wrongNumbers {
		l = append(l, wrongList{list(n), api.ErrRange}, wrongList{list(0, level, n, -level), api.ErrRange})
	}
	return l
}

func wrongResponses() []wrongList {
	return append(wrongLists(longest), wrongList{make([]int, api.MaxLength+1), api.ErrMany})
}

func wrongSequences() []wrongList {
	return wrongLists(api.MaxLength)
}

// wrongPairLengths are integers that are no lengths of complementary pairs.
var wrongPairLengths = []int{0, -1, 3, 5, 6, 12, 63, 65, 96, 128, 256, math.MinInt, math.MaxInt, math.MinInt + 1}

// wrongLengths are integers that are no lengths of gates or windows.
var wrongLengths = []int{0, -1, longest + 1, math.MinInt, math.MaxInt}

// wrongGroup is some responses with their error.
type wrongGroup struct {
	l [][]int
	e api.Errno
}

// wrongGroups returns n responses of the same length, but for errors, of which the first one decides; n is at least 3.
func wrongGroups(n int) []wrongGroup {
	good := func() [][]int { return repeated([]int{1, -2, 3}, n) }
	with := func(at int, h []int) [][]int {
		l := good()
		l[at] = h
		return l
	}
	var groups []wrongGroup
	for _, x := range wrongResponses() {
		groups = append(groups, wrongGroup{with(0, x.l), x.e}, wrongGroup{with(1, x.l), x.e}, wrongGroup{with(n-1, x.l), x.e})
		// An error of a response before another length, and another length before an error of a later response.
		before, behind := with(1, x.l), with(n-1, x.l)
		before[n-1], behind[1] = list(1), list(1)
		groups = append(groups, wrongGroup{before, x.e}, wrongGroup{behind, api.ErrShape})
	}
	for _, h := range [][]int{nil, {1}, {1, 2}, {1, 2, 3, 4}, make([]int, longest)} {
		groups = append(groups, wrongGroup{with(0, h), api.ErrShape}, wrongGroup{with(1, h), api.ErrShape}, wrongGroup{with(n-1, h), api.ErrShape})
	}
	return groups
}
