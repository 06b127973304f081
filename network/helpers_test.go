package network_test

import (
	"math"
	"slices"
	"testing"

	"woofer/api"
	"woofer/network"
)

// equal compares a result with the expected one.
func equal[T comparable](t *testing.T, what string, got, wanted T) {
	t.Helper()
	if got != wanted {
		t.Errorf("%s: got %v, want %v", what, got, wanted)
	}
}

// equalList compares lists; nil and the empty list are equal.
func equalList[T comparable](t *testing.T, what string, got, wanted []T) {
	t.Helper()
	if !slices.Equal(got, wanted) {
		t.Errorf("%s: got %v, want %v", what, got, wanted)
	}
}

// ok requires a result without an error.
func ok[T any](t *testing.T) func(x T, e api.Errno) T {
	return func(x T, e api.Errno) T {
		t.Helper()
		equal(t, "error", e, api.OK)
		return x
	}
}

// fails requires an error, and nothing beside it.
func fails[T comparable](t *testing.T, what string, got T, e, wanted api.Errno) {
	t.Helper()
	var zero T
	equal(t, what, e, wanted)
	equal(t, what+": beside the error", got, zero)
}

// failsList is fails for lists.
func failsList[T comparable](t *testing.T, what string, got []T, e, wanted api.Errno) {
	t.Helper()
	equal(t, what, e, wanted)
	equalList(t, what+": beside the error", got, nil)
}

// g is re + i im.
func g(re, im int) api.Gauss {
	return api.Gauss{Re: re, Im: im}
}

func pair(num, den api.Gauss) network.Pair {
	return network.Pair{Num: num, Den: den}
}

func ratio(num, den int) api.Ratio {
	return api.Ratio{Num: num, Den: den}
}

func series(a, b int) network.Element { return network.Element{Kind: "series", A: a, B: b} }
func shunt(a, b int) network.Element  { return network.Element{Kind: "shunt", A: a, B: b} }
func block(a, b int) network.Element  { return network.Element{Kind: "block", A: a, B: b} }
func trap(a, b int) network.Element   { return network.Element{Kind: "trap", A: a, B: b} }

// row is the ladder of elements.
func row(l ...network.Element) []network.Element {
	return l
}

// filter is the ladder L of the chapter's examples.
func filter() []network.Element {
	return row(series(2, 1), shunt(0, 1))
}

// random returns a function that draws integers from 0 to most.
func random(key int) func(most int) int {
	x := key
	return func(most int) int {
		x = x * 16807 % 2147483647
		return (x >> 8) % (most + 1)
	}
}

// drawn returns a ladder that a key decides.
func drawn(key int) []network.Element {
	next := random(key)
	for range 10 {
		next(1)
	}
	l := make([]network.Element, next(network.MaxElements))
	for i := range l {
		l[i] = network.Element{Kind: network.Kinds()[next(3)], A: next(network.MaxPart), B: next(network.MaxPart)}
		if l[i].A == 0 && l[i].B == 0 {
			l[i].A = 1
		}
		if next(2) == 0 && l[i].B > 0 {
			l[i].A = 0
		}
	}
	return l
}

// ladders returns ladders of all lengths, those without losses and the greatest ones included.
func ladders() [][]network.Element {
	list := [][]network.Element{
		nil, filter(),
		row(series(0, 1), shunt(0, 1)), row(shunt(0, 1), series(0, 1)), row(shunt(0, 1), series(0, 2), shunt(0, 1)),
		row(series(0, 0), shunt(0, 0)), row(trap(0, 1), block(0, 1), series(0, 3)),
	}
	for _, kind := range network.Kinds() {
		greatest := network.Element{Kind: kind, A: network.MaxPart, B: network.MaxPart}
		list = append(list, slices.Repeat(row(greatest), network.MaxElements))
		for a := range network.MaxPart + 1 {
			for b := range network.MaxPart + 1 {
				if a+b > 0 {
					list = append(list, row(network.Element{Kind: kind, A: a, B: b}))
				}
			}
		}
	}
	list = append(list, row(series(8, 8), shunt(8, 8), series(8, 8), shunt(8, 8), series(8, 8)))
	list = append(list, row(shunt(8, 8), block(8, 8), series(0, 8), trap(0, 8), shunt(8, 8)))
	for key := 1; key <= 400; key++ {
		list = append(list, drawn(key))
	}
	return list
}

// wrongLadder is a ladder with its error.
type wrongLadder struct {
	what string
	l    []network.Element
	e    api.Errno
}

// wrongLadders returns ladders with each error, and with two errors, of which the first one decides.
func wrongLadders() []wrongLadder {
	element := func(kind string, a, b int) []network.Element {
		return row(network.Element{Kind: kind, A: a, B: b})
	}
	list := []wrongLadder{
		{"too many", slices.Repeat(filter(), 3), api.ErrMany},
		{"many before kind", make([]network.Element, 6), api.ErrMany},
		{"no kind", element("", 1, 1), api.ErrKind},
		{"other kind", element("Series", 1, 1), api.ErrKind},
		{"the kind of no element", element("wire", 1, 1), api.ErrKind},
		{"kind before range", element("coil", -1, 9), api.ErrKind},
		{"kind before zero", element("blocks", 0, 0), api.ErrKind},
		{"zero block", row(series(0, 0), block(0, 0)), api.ErrZero},
		{"zero trap", row(shunt(0, 0), trap(0, 0)), api.ErrZero},
		{"zero before kind", slices.Concat(filter(), row(trap(0, 0)), element("x", 9, 9)), api.ErrZero},
		{"range before kind", slices.Concat(row(series(0, 9)), element("x", 1, 1)), api.ErrRange},
		{"kind before the range of the next one", slices.Concat(element("x", 1, 1), row(series(0, 9))), api.ErrKind},
		{"range before zero", row(block(0, -1), block(0, 0)), api.ErrRange},
	}
	for _, kind := range network.Kinds() {
		for _, x := range []int{-1, 9, math.MinInt, math.MaxInt} {
			list = append(list, wrongLadder{"A of " + kind, element(kind, x, 1), api.ErrRange})
			list = append(list, wrongLadder{"B of " + kind, element(kind, 0, x), api.ErrRange})
		}
	}
	return list
}

// wrongFrequencies returns integers that are no frequencies.
func wrongFrequencies() []int {
	return []int{0, -1, 9, math.MinInt, math.MaxInt}
}

// wrongSpan is two frequencies with their error.
type wrongSpan struct {
	from, to int
	e        api.Errno
}

func wrongSpans() []wrongSpan {
	return []wrongSpan{
		{0, 1, api.ErrRange}, {1, 9, api.ErrRange}, {9, 1, api.ErrRange}, {9, 9, api.ErrRange}, {0, 0, api.ErrRange}, {5, 0, api.ErrRange}, {-1, -2, api.ErrRange},
		{1, math.MaxInt, api.ErrRange}, {math.MinInt, 8, api.ErrRange}, {math.MinInt, math.MaxInt, api.ErrRange},
		{2, 1, api.ErrOrder}, {8, 1, api.ErrOrder}, {8, 7, api.ErrOrder},
	}
}

// wrongParts returns complex integers that are not permitted in arguments.
func wrongParts() []api.Gauss {
	return []api.Gauss{
		g(30001, 0), g(-30001, 0), g(0, 30001), g(0, -30001), g(-30000, 30001), g(math.MaxInt, 0), g(math.MinInt, 0), g(1, math.MaxInt), g(1, math.MinInt),
	}
}
