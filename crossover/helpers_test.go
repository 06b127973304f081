package crossover_test

import (
	"fmt"
	"iter"
	"math"
	"slices"
	"testing"

	"woofer/api"
	"woofer/crossover"
	"woofer/network"
)

// same compares a result with the expected one; printed, nil and the empty list are equal.
func same(t *testing.T, what string, got, wanted any) {
	t.Helper()
	if g, w := fmt.Sprint(got), fmt.Sprint(wanted); g != w {
		t.Errorf("%s: got %s, want %s", what, g, w)
	}
}

// want requires a result without an error.
func want[T any](t *testing.T, what string, wanted T) func(T, api.Errno) {
	return func(got T, e api.Errno) {
		t.Helper()
		same(t, what+": error", e, api.OK)
		same(t, what, got, wanted)
	}
}

// fails requires an error, and nothing beside it.
func fails[T any](t *testing.T, what string, wanted api.Errno) func(T, api.Errno) {
	return func(got T, e api.Errno) {
		t.Helper()
		var zero T
		same(t, what+": error", e, wanted)
		same(t, what+": beside the error", got, zero)
	}
}

// of requires a result without an error, and returns it.
func of[T any](t *testing.T) func(T, api.Errno) T {
	return func(got T, e api.Errno) T {
		t.Helper()
		same(t, "error", e, api.OK)
		return got
	}
}

func ratio(num, den int) api.Ratio {
	return api.Ratio{Num: num, Den: den}
}

func series(a, b int) network.Element { return network.Element{Kind: "series", A: a, B: b} }
func shunt(a, b int) network.Element  { return network.Element{Kind: "shunt", A: a, B: b} }
func block(a, b int) network.Element  { return network.Element{Kind: "block", A: a, B: b} }
func trap(a, b int) network.Element   { return network.Element{Kind: "trap", A: a, B: b} }

// row is the ladder of elements.
func row(l ...network.Element) []network.Element {
	return l
}

// part is a part with the cost 1 and the stock 9.
func part(name string, x network.Element, slackA, slackB int) crossover.Part {
	return crossover.Part{Name: name, Element: x, SlackA: slackA, SlackB: slackB, Cost: 1, Stock: 9}
}

// priced is a part with another cost and another stock.
func priced(p crossover.Part, cost, stock int) crossover.Part {
	p.Cost, p.Stock = cost, stock
	return p
}

// list is the catalogue of parts.
func list(l ...crossover.Part) []crossover.Part {
	return l
}

// exampleK returns the catalogue K of the chapter's examples.
func exampleK() []crossover.Part {
	return list(
		priced(part("r", series(2, 0), 0, 0), 3, 2),
		priced(part("c", shunt(0, 1), 0, 0), 5, 1),
		priced(part("d", shunt(0, 1), 0, 1), 4, 1),
	)
}

func band(w int, least, most api.Ratio) crossover.Band {
	return crossover.Band{W: w, Least: least, Most: most}
}

// quiet returns the corridor of the chapter's examples: at the frequency 1 up to 1/4.
func quiet() []crossover.Band {
	return []crossover.Band{band(1, ratio(0, 1), ratio(1, 4))}
}

// wide returns a corridor that all ladders without poles keep, whatever the frequencies.
func wide(frequencies ...int) []crossover.Band {
	var c []crossover.Band
	for _, w := range frequencies {
		c = append(c, band(w, ratio(0, 1), ratio(1000, 1)))
	}
	return c
}

// random returns a function that draws integers from least to most.
func random(key int) func(least, most int) int {
	x := key
	return func(least, most int) int {
		x = x * 48271 % 2147483647
		return least + (x>>7)%(most-least+1)
	}
}

// drawnPart returns a part that is drawn, with a value that has room for its slacks.
func drawnPart(next func(least, most int) int, name string) crossover.Part {
	slackA, slackB := next(0, 3)/3, next(0, 2)/2
	x := network.Element{Kind: network.Kinds()[next(0, 3)], A: next(slackA, 8-slackA), B: next(slackB, 8-slackB)}
	// Small numbers have levels near the limits of drawnCorridor, and parts without resistors have poles.
	switch next(0, 3) {
	case 0:
		x.A, x.B = slackA, next(slackB, 2)
	case 1:
		x.A, x.B = next(slackA, 2), next(slackB, 2)
	}
	if x.A <= slackA && x.B <= slackB {
		x.A = slackA + 1 // both numbers of no value may be 0
	}
	return crossover.Part{Name: name, Element: x, SlackA: slackA, SlackB: slackB, Cost: next(1, 6), Stock: next(0, 3)}
}

// drawnCatalogue returns a catalogue of at most most parts; some of its parts are alike.
func drawnCatalogue(next func(least, most int) int, most int) []crossover.Part {
	var l []crossover.Part
	for i := range next(0, most) {
		p := drawnPart(next, string(rune('a'+i)))
		if len(l) > 0 && next(0, 2) == 0 {
			p.Element = l[next(0, len(l)-1)].Element
		}
		if crossover.CheckPart(p) == api.OK {
			l = append(l, p)
		}
	}
	return l
}

// drawnCorridor returns a corridor whose bands have limits near the levels of small ladders.
func drawnCorridor(next func(least, most int) int) []crossover.Band {
	limits := []api.Ratio{ratio(0, 1), ratio(1, 1000), ratio(1, 90), ratio(1, 17), ratio(1, 5), ratio(1, 4), ratio(2, 5), ratio(4, 5), ratio(1, 1), ratio(3, 2), ratio(1000, 1)}
	var c []crossover.Band
	for w := next(1, 6); w <= network.MaxW; w += next(1, 7) {
		least := next(0, 5) * next(0, 1)
		c = append(c, band(w, limits[least], limits[next(least, len(limits)-1)]))
	}
	return c
}

// search is a catalogue, a corridor and a number of parts.
type search struct {
	l []crossover.Part
	c []crossover.Band
	n int
}

// drawnFilters returns a catalogue of coils, capacitors and resistors of which quiet ladders are made.
func drawnFilters(next func(least, most int) int) []crossover.Part {
	l := list(part("a", series(next(1, 4), next(1, 4)), next(0, 1), 0), part("b", shunt(next(0, 2), next(1, 3)), 0, next(0, 1)))
	l = append(l, part("c", series(next(2, 7), 0), next(0, 1), 0), part("d", shunt(0, next(2, 7)), 0, next(0, 1)))
	for i, p := range l {
		l[i] = priced(p, next(1, 6), next(0, 3))
	}
	return l[:next(2, 4)]
}

// someSearches visits searches that are drawn. No part alone is quieter than none: to keep half of the corridors, a
// choice must have two or three parts.
func someSearches(next func(least, most int) int) iter.Seq[search] {
	loudest := []api.Ratio{ratio(1, 3), ratio(1, 9), ratio(1, 30), ratio(1, 100), ratio(1, 400), ratio(1, 1000)}
	return func(yield func(search) bool) {
		for i := range 400 {
			x := search{l: drawnCatalogue(next, 4), c: drawnCorridor(next), n: next(0, 3)}
			if i%2 == 0 {
				x.l, x.n = drawnFilters(next), next(2, 3)
				x.c = []crossover.Band{band(next(1, 4), ratio(0, 1), loudest[next(0, 5)])}
			}
			if !yield(x) {
				return
			}
		}
	}
}

// wrongPart is a part with its error.
type wrongPart struct {
	what string
	p    crossover.Part
	e    api.Errno
}

// changed returns a good part with a change.
func changed(change func(p *crossover.Part)) crossover.Part {
	p := part("good", series(2, 3), 1, 1)
	change(&p)
	return p
}

// wrongParts returns parts with each error, and with two errors, of which the first one decides.
func wrongParts() []wrongPart {
	var l []wrongPart
	add := func(what string, e api.Errno, change func(p *crossover.Part)) {
		l = append(l, wrongPart{what, changed(change), e})
	}
	for _, name := range []string{"", "1a", "_", "a b", "a-b", "ä", "a\n", "a\x00", "abcdefghijklmnopqrstuvwxy"} {
		add("name "+name, api.ErrName, func(p *crossover.Part) { p.Name = name })
		add("name before kind: "+name, api.ErrName, func(p *crossover.Part) { p.Name, p.Element.Kind, p.SlackA = name, "", 2 })
	}
	for _, kind := range []string{"", "Series", "coil", "wire", "series "} {
		add("kind "+kind, api.ErrKind, func(p *crossover.Part) { p.Element.Kind = kind })
		add("kind before numbers: "+kind, api.ErrKind, func(p *crossover.Part) { p.Element.Kind, p.Element.A, p.SlackA = kind, 9, 9 })
	}
	for _, x := range []int{-1, 9, math.MinInt, math.MaxInt} {
		add("A", api.ErrRange, func(p *crossover.Part) { p.Element.A = x })
		add("B", api.ErrRange, func(p *crossover.Part) { p.Element.B = x })
	}
	for _, kind := range []string{"block", "trap"} {
		add("zero "+kind, api.ErrZero, func(p *crossover.Part) { p.Element = network.Element{Kind: kind} })
		add("zero before slack: "+kind, api.ErrZero, func(p *crossover.Part) { p.Element, p.SlackA = network.Element{Kind: kind}, 2 })
	}
	for _, x := range []int{-1, 2, math.MinInt, math.MaxInt} {
		add("slack in A", api.ErrRange, func(p *crossover.Part) { p.SlackA = x })
		add("slack in B", api.ErrRange, func(p *crossover.Part) { p.SlackB = x })
		add("slack before form", api.ErrRange, func(p *crossover.Part) { p.Element.A, p.SlackB = 0, x })
	}
	for _, x := range []int{-1, 0, 1000001, math.MinInt, math.MaxInt} {
		add("cost", api.ErrRange, func(p *crossover.Part) { p.Cost = x })
		add("cost before form", api.ErrRange, func(p *crossover.Part) { p.Element.A, p.Cost = 0, x })
	}
	for _, x := range []int{-1, 101, math.MinInt, math.MaxInt} {
		add("stock", api.ErrRange, func(p *crossover.Part) { p.Stock = x })
		add("stock before form", api.ErrRange, func(p *crossover.Part) { p.Element.A, p.Stock = 8, x })
	}
	for _, x := range []network.Element{series(0, 3), series(8, 3), shunt(3, 0), shunt(3, 8), block(0, 1), trap(1, 0), block(1, 1), trap(1, 1), series(0, 0)} {
		add("a value that is none", api.ErrForm, func(p *crossover.Part) { p.Element = x })
	}
	add("a zero of the slack in A", api.ErrForm, func(p *crossover.Part) { p.Element, p.SlackB = block(1, 0), 0 })
	add("a zero of the slack in B", api.ErrForm, func(p *crossover.Part) { p.Element, p.SlackA = trap(0, 1), 0 })
	return l
}

// wrongCatalogue is a catalogue with its error.
type wrongCatalogue struct {
	what string
	l    []crossover.Part
	e    api.Errno
}

// wrongCatalogues returns catalogues with each error, and with two errors, of which the first one decides.
func wrongCatalogues() []wrongCatalogue {
	good, other := part("good", series(2, 3), 1, 1), part("other", block(2, 3), 1, 1)
	badCost := priced(part("good", trap(2, 3), 1, 1), 0, 1)
	l := []wrongCatalogue{
		{"too many", slices.Repeat(list(good), 7), api.ErrMany},
		{"too many that are wrong", make([]crossover.Part, 7), api.ErrMany},
		{"twice", list(good, good), api.ErrTwice},
		{"a name twice", list(other, good, priced(other, 2, 2)), api.ErrTwice},
		{"the part's error before twice", list(good, badCost), api.ErrRange},
		{"twice before the error of a later part", list(good, other, good, badCost), api.ErrTwice},
		{"an error before twice", list(badCost, good, good), api.ErrRange},
		{"no part", list(good, crossover.Part{}), api.ErrName},
	}
	for _, x := range wrongParts() {
		l = append(l, wrongCatalogue{x.what, list(x.p), x.e}, wrongCatalogue{x.what, list(other, x.p, other), x.e})
	}
	return l
}

// wrongChoice is a choice of parts of K with its error.
type wrongChoice struct {
	choice []int
	e      api.Errno
}

func wrongChoices() []wrongChoice {
	l := []wrongChoice{{[]int{0, 0, 0, 0}, api.ErrMany}, {[]int{-1, 3, -1, 3}, api.ErrMany}, {make([]int, 1000), api.ErrMany}}
	for _, i := range []int{-1, 3, math.MinInt, math.MaxInt} {
		l = append(l, wrongChoice{[]int{i}, api.ErrUnknown}, wrongChoice{[]int{0, 2, i}, api.ErrUnknown}, wrongChoice{[]int{i, 0}, api.ErrUnknown})
	}
	return l
}

// wrongCorridor is a corridor with its error.
type wrongCorridor struct {
	c []crossover.Band
	e api.Errno
}

// wrongCorridors returns corridors with each error, and with two errors, of which the first one decides.
func wrongCorridors() []wrongCorridor {
	none, all := ratio(0, 1), ratio(1, 1)
	l := []wrongCorridor{
		{nil, api.ErrEmpty},
		{[]crossover.Band{}, api.ErrEmpty},
		{wide(1, 2, 3, 4, 5, 6, 7, 8, 8), api.ErrMany},
		{make([]crossover.Band, 9), api.ErrMany},
		{wide(1, 1), api.ErrOrder},
		{wide(2, 1), api.ErrOrder},
		{wide(1, 3, 5, 5, 9), api.ErrOrder},
		{wide(1, 3, 9, 5, 5), api.ErrRange},
		{[]crossover.Band{band(1, ratio(2, 1), all)}, api.ErrOrder},
		{[]crossover.Band{band(1, ratio(1000, 999), ratio(999, 998)), band(2, ratio(999, 998), ratio(1000, 999))}, api.ErrOrder},
		{[]crossover.Band{band(1, ratio(2, 1), all), band(9, none, all)}, api.ErrOrder},
		{[]crossover.Band{band(9, ratio(2, 4), ratio(1001, 1))}, api.ErrRange},
		{[]crossover.Band{band(1, ratio(2, 4), ratio(1001, 1))}, api.ErrForm},
		{[]crossover.Band{band(1, ratio(1001, 1), ratio(2, 4))}, api.ErrRange},
		{[]crossover.Band{band(1, all, ratio(2, 4))}, api.ErrForm},
		{[]crossover.Band{band(1, ratio(3, 3), ratio(2, 1))}, api.ErrForm},
		{[]crossover.Band{band(1, ratio(0, 2), all)}, api.ErrForm},
		{[]crossover.Band{band(1, none, ratio(0, 1000))}, api.ErrForm},
		{[]crossover.Band{{}}, api.ErrRange},
		{[]crossover.Band{{W: 1}}, api.ErrRange},
	}
	for _, w := range wrongFrequencies {
		l = append(l, wrongCorridor{wide(w), api.ErrRange}, wrongCorridor{wide(8, w), api.ErrRange})
	}
	for _, x := range []api.Ratio{
		ratio(-1, 1), ratio(1001, 1), ratio(math.MinInt, 1), ratio(math.MaxInt, 1), ratio(1, 0), ratio(1, -1), ratio(1, 1001), ratio(1, math.MinInt), ratio(1, math.MaxInt),
		ratio(0, 0), ratio(-1, -1), ratio(2, 2000),
	} {
		l = append(l, wrongCorridor{[]crossover.Band{band(1, x, ratio(1000, 1))}, api.ErrRange}, wrongCorridor{[]crossover.Band{band(1, none, x)}, api.ErrRange})
		l = append(l, wrongCorridor{[]crossover.Band{band(1, none, all), band(1, x, x)}, api.ErrRange})
	}
	return l
}

// wrongFrequencies are integers that are no frequencies.
var wrongFrequencies = []int{0, -1, 9, math.MinInt, math.MaxInt}

// wrongNumbers are integers that are no numbers of parts.
var wrongNumbers = []int{-1, 4, math.MinInt, math.MaxInt}
