package array_test

import (
	"fmt"
	"math"
	"slices"
	"testing"

	"woofer/api"
	"woofer/array"
)

// same compares a result with the expected one; printed, nil and the empty list are equal.
func same(t *testing.T, what string, got, wanted any) {
	t.Helper()
	if g, w := fmt.Sprint(got), fmt.Sprint(wanted); g != w {
		t.Errorf("%s: got %s, want %s", what, short(g), short(w))
	}
}

func short(s string) string {
	if len(s) > 300 {
		return s[:300] + ".."
	}
	return s
}

// want requires a result without an error.
func want[T any](t *testing.T, what string, wanted T) func(T, api.Errno) {
	return func(got T, e api.Errno) {
		t.Helper()
		same(t, what+": error", e, api.OK)
		same(t, what, got, wanted)
	}
}

// fails requires an error, and nothing beside it.
func fails[T any](t *testing.T, what string, wanted api.Errno) func(T, api.Errno) {
	return func(got T, e api.Errno) {
		t.Helper()
		var zero T
		same(t, what+": error", e, wanted)
		same(t, what+": beside the error", got, zero)
	}
}

// of requires a result without an error, and returns it.
func of[T any](t *testing.T) func(T, api.Errno) T {
	return func(got T, e api.Errno) T {
		t.Helper()
		same(t, "error", e, api.OK)
		return got
	}
}

// The types of results.
type (
	sources = []array.Source
	pattern = [array.Directions]api.Gauss
	four    = [4]api.Gauss
)

// at returns a source with the gain 1 and the phase 0.
func at(x, y int) array.Source {
	return array.Source{X: x, Y: y, Gain: 1}
}

// wave returns a source at 0, 0.
func wave(gain, phase int) array.Source {
	return array.Source{Gain: gain, Phase: phase}
}

// z returns a complex integer.
func z(re, im int) api.Gauss {
	return api.Gauss{Re: re, Im: im}
}

// list returns the list of its elements.
func list[T any](l ...T) []T {
	return l
}

// exampleA returns the array A of the chapter's examples.
func exampleA() sources {
	return list(at(0, 0), at(1, 0))
}

// numbersOf returns the numbers of a source, in the order of its text.
func numbersOf(s *array.Source) []*int {
	return []*int{&s.X, &s.Y, &s.Gain, &s.Phase}
}

// random returns a function that draws integers from least to most.
func random(key int) func(least, most int) int {
	x := key
	return func(least, most int) int {
		x = x * 48271 % 2147483647
		return least + (x>>7)%(most-least+1)
	}
}

// drawn returns n sources, whose places and gains are from -place to place and from -gain to gain.
func drawn(next func(least, most int) int, n, place, gain int) sources {
	var l sources
	for range n {
		l = append(l, array.Source{X: next(-place, place), Y: next(-place, place), Gain: next(-gain, gain), Phase: next(0, 3)})
	}
	return l
}

// drawnAudience returns an audience with weights from -most to most.
func drawnAudience(next func(least, most int) int, most int) [array.Directions]int {
	var a [array.Directions]int
	for i := range a {
		a[i] = next(-most, most)
	}
	return a
}

// drawnFour returns four complex integers with parts from -most to most.
func drawnFour(next func(least, most int) int, most int) four {
	var p four
	for i := range p {
		p[i] = z(next(-most, most), next(-most, most))
	}
	return p
}

// someArrays returns those of the examples, those with the greatest numbers, and some others.
func someArrays() []sources {
	const place, gain = array.MaxPlace, array.MaxGain
	l := []sources{
		nil, exampleA(), list(at(1, 0), at(-1, 0)), list(at(0, 0), at(1, 0), at(1, 0), at(2, 0)), list(wave(1, 0), wave(1, 2)), list(wave(0, 3)),
		{{X: place, Y: place, Gain: gain, Phase: 3}, {X: -place, Y: -place, Gain: -gain, Phase: 3}, {X: -place, Y: place, Gain: gain}},
		slices.Repeat(list(array.Source{X: place, Y: -place, Gain: gain, Phase: 1}), array.MaxSources),
		slices.Repeat(list(array.Source{X: -place, Y: place, Gain: -gain, Phase: 2}), array.MaxSources),
	}
	next := random(5)
	for range 60 {
		l = append(l, drawn(next, next(1, 5), 1, 1), drawn(next, next(0, array.MaxSources), 2, 3), drawn(next, next(1, array.MaxSources), place, gain))
	}
	return l
}

// wrongSources returns sources with one number that is not in its range, and one in which all are wrong; all are ErrRange.
func wrongSources() sources {
	wrong := [][]int{{-101, 101}, {-101, 101}, {-101, 101}, {-1, 4, 7}}
	var l sources
	for i, numbers := range wrong {
		for _, n := range append(numbers, math.MinInt, math.MinInt32, math.MaxInt32, math.MaxInt) {
			s := at(1, 2)
			*numbersOf(&s)[i] = n
			l = append(l, s)
		}
	}
	return append(l, array.Source{X: 101, Y: -101, Gain: 101, Phase: 4})
}

// wrongArray is sources with their error.
type wrongArray struct {
	l sources
	e api.Errno
}

func wrongArrays() []wrongArray {
	l := []wrongArray{
		{make(sources, array.MaxSources+1), api.ErrMany},
		{slices.Repeat(wrongSources()[:1], array.MaxSources+1), api.ErrMany},
		{make(sources, 1000), api.ErrMany},
		{append(make(sources, array.MaxSources-1), wrongSources()[0]), api.ErrRange},
	}
	for _, s := range wrongSources() {
		l = append(l, wrongArray{list(s), api.ErrRange}, wrongArray{list(at(0, 0), s, at(1, 0)), api.ErrRange})
	}
	return l
}

// wrongDirections are integers that are no directions.
var wrongDirections = []int{-1, 8, 9, -8, math.MinInt, math.MaxInt}

// wrongPlaces are integers that are no places.
var wrongPlaces = []int{-101, 101, math.MinInt, math.MaxInt}

// wrongFours returns four complex integers of which one has a part that is too large; all of them are ErrRange.
func wrongFours() []four {
	var l []four
	for _, n := range []int{-api.MaxNumber - 1, api.MaxNumber + 1, math.MinInt, math.MaxInt} {
		for i := range 4 {
			var re, im four
			re[i], im[i] = z(n, 4), z(4, n)
			l = append(l, re, im)
		}
	}
	return l
}

// wrongAudiences returns audiences with a weight that is not in its range; all of them are ErrRange.
func wrongAudiences() [][array.Directions]int {
	var l [][array.Directions]int
	for _, n := range []int{-1001, 1001, math.MinInt, math.MaxInt} {
		for i := range array.Directions {
			var a [array.Directions]int
			a[i] = n
			l = append(l, a)
		}
	}
	return l
}
