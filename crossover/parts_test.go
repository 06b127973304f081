package crossover_test

import (
	"math"
	"slices"
	"strings"
	"testing"

	"woofer/api"
	"woofer/crossover"
	"woofer/network"
)

// P4.1: CheckPart.
func TestCheckPart(t *testing.T) {
	for _, p := range append(exampleK(),
		part("a", series(0, 0), 0, 0), part("b", shunt(8, 8), 0, 0), part("c", series(1, 1), 1, 1), part("d", shunt(7, 7), 1, 1), part("e", series(1, 0), 1, 0),
		part("f", shunt(8, 7), 0, 1), part("g", block(0, 1), 0, 0), part("h", trap(8, 8), 0, 0), part("i", block(1, 2), 1, 1), part("j", trap(2, 1), 1, 1),
		part("k", block(1, 1), 0, 1), part("l", trap(1, 1), 1, 0), part("m", block(1, 1), 1, 0), part(strings.Repeat("Z", 24), trap(7, 7), 1, 1),
		priced(part("n_1", block(8, 0), 0, 0), 1000000, 100), priced(part("o", trap(0, 8), 0, 0), 1, 0),
	) {
		same(t, "CheckPart of "+p.Name, crossover.CheckPart(p), api.OK)
	}
	for _, x := range wrongParts() {
		same(t, "CheckPart: "+x.what, crossover.CheckPart(x.p), x.e)
	}
}

// P4.1: CheckCatalogue.
func TestCheckCatalogue(t *testing.T) {
	six := list()
	for i, name := range []string{"a", "A", "a_", "a1", "b", "aa"} {
		six = append(six, part(name, series(i, i), 0, 0))
	}
	for _, l := range [][]crossover.Part{nil, {}, exampleK(), six, list(part("a", trap(2, 2), 1, 1), part("b", trap(2, 2), 1, 1))} {
		same(t, "CheckCatalogue", crossover.CheckCatalogue(l), api.OK)
	}
	for _, x := range wrongCatalogues() {
		same(t, "CheckCatalogue: "+x.what, crossover.CheckCatalogue(x.l), x.e)
	}
}

// P4.1: Values.
func TestValues(t *testing.T) {
	for _, x := range []struct {
		p      crossover.Part
		values []network.Element
	}{
		{exampleK()[0], row(series(2, 0))},
		{exampleK()[2], row(shunt(0, 0), shunt(0, 1), shunt(0, 2))},
		{part("a", block(7, 3), 1, 0), row(block(6, 3), block(7, 3), block(8, 3))},
		{part("a", trap(1, 7), 1, 1), row(trap(0, 6), trap(0, 7), trap(0, 8), trap(1, 6), trap(1, 7), trap(1, 8), trap(2, 6), trap(2, 7), trap(2, 8))},
		{part("a", series(0, 0), 0, 0), row(series(0, 0))},
	} {
		want(t, "Values", x.values)(crossover.Values(x.p))
	}
	next := random(11)
	for range 300 {
		p := drawnPart(next, "p")
		want(t, "Values", valuesOf(p))(crossover.Values(p))
	}
	for _, x := range wrongParts() {
		fails[[]network.Element](t, "Values: "+x.what, x.e)(crossover.Values(x.p))
	}
}

// P4.1: Cost, Stocked and Take of K.
func TestChoices(t *testing.T) {
	for _, x := range []struct {
		choice []int
		cost   int
		stocks []int // nil if it is not in stock
	}{
		{nil, 0, []int{2, 1, 1}},
		{[]int{0}, 3, []int{1, 1, 1}},
		{[]int{2}, 4, []int{2, 1, 0}},
		{[]int{0, 1}, 8, []int{1, 0, 1}},
		{[]int{0, 0, 1}, 11, []int{0, 0, 1}},
		{[]int{0, 1, 0}, 11, []int{0, 0, 1}},
		{[]int{2, 1, 0}, 12, []int{1, 0, 0}},
		{[]int{0, 0, 0}, 9, nil},
		{[]int{1, 1}, 10, nil},
		{[]int{2, 0, 2}, 11, nil},
	} {
		l := exampleK()
		want(t, "Cost", x.cost)(crossover.Cost(l, x.choice))
		want(t, "Stocked", x.stocks != nil)(crossover.Stocked(l, x.choice))
		if x.stocks == nil {
			fails[[]crossover.Part](t, "Take", api.ErrNone)(crossover.Take(l, x.choice))
			continue
		}
		wanted := exampleK()
		for i, stock := range x.stocks {
			wanted[i].Stock = stock
		}
		want(t, "Take", wanted)(crossover.Take(l, x.choice))
		same(t, "the catalogue", l, exampleK())
	}
	dear := list(priced(part("a", series(1, 1), 0, 0), 1000000, 3), priced(part("b", series(1, 1), 0, 0), 1, 0))
	want(t, "the greatest cost", 3000000)(crossover.Cost(dear, []int{0, 0, 0}))
	want(t, "the whole stock", true)(crossover.Stocked(dear, []int{0, 0, 0}))
	want(t, "no stock", false)(crossover.Stocked(dear, []int{0, 1}))
	fails[[]crossover.Part](t, "Take without stock", api.ErrNone)(crossover.Take(dear, []int{1}))
	want(t, "Take of nothing", list())(crossover.Take(nil, nil))
	want(t, "Cost of nothing", 0)(crossover.Cost(nil, []int{}))
	want(t, "Stocked without parts", true)(crossover.Stocked(nil, nil))
}

// P4.1: the errors of Cost, Stocked and Take, from left to right.
func TestWrongChoices(t *testing.T) {
	wrong := func(l []crossover.Part, choice []int, e api.Errno) {
		t.Helper()
		fails[int](t, "Cost", e)(crossover.Cost(l, choice))
		fails[bool](t, "Stocked", e)(crossover.Stocked(l, choice))
		fails[[]crossover.Part](t, "Take", e)(crossover.Take(l, choice))
	}
	for _, x := range wrongChoices() {
		wrong(exampleK(), x.choice, x.e)
	}
	for _, x := range wrongCatalogues() {
		wrong(x.l, nil, x.e)
		wrong(x.l, []int{-1, -1, -1, -1}, x.e)
	}
	wrong(nil, []int{0}, api.ErrUnknown)
}

// P4.1: Dominated.
func TestDominated(t *testing.T) {
	exact, loose, looser := part("exact", trap(2, 2), 0, 0), part("loose", trap(2, 2), 0, 1), part("looser", trap(2, 2), 1, 1)
	named := func(name string, p crossover.Part) crossover.Part {
		p.Name = name
		return p
	}
	for _, x := range []struct {
		what      string
		l         []crossover.Part
		dominated []int
	}{
		{"nothing", nil, nil},
		{"one part", list(exact), nil},
		{"K: d has values that c has not, and is cheaper", exampleK(), nil},
		{"K with a cheaper c", list(exampleK()[0], priced(exampleK()[1], 4, 1), exampleK()[2]), []int{2}},
		{"the same values, the second one dearer", list(exact, priced(named("b", exact), 2, 9)), []int{1}},
		{"the same values, the first one dearer", list(priced(exact, 2, 9), named("b", exact)), []int{0}},
		{"the same values, the second one with less stock", list(exact, priced(named("b", exact), 1, 8)), []int{1}},
		{"the same values, the first one with less stock", list(priced(exact, 1, 8), named("b", exact)), []int{0}},
		{"the same values, one dearer, the other one with less stock", list(priced(exact, 2, 9), priced(named("b", exact), 1, 8)), nil},
		{"alike", list(exact, named("b", exact), named("c", exact)), []int{1, 2}},
		{"fewer values", list(looser, exact, loose), []int{0, 2}},
		{"fewer values, but dearer", list(looser, priced(exact, 2, 9), loose), []int{0}},
		{"fewer values, but less stock", list(looser, priced(exact, 1, 8), priced(loose, 1, 8)), []int{2}},
		{"fewer values, later", list(loose, exact), []int{0}},
		{"neither has all values", list(part("a", trap(2, 2), 1, 0), part("b", trap(2, 2), 0, 1)), nil},
		{"values that overlap", list(part("a", trap(2, 2), 1, 0), part("b", trap(3, 2), 1, 0)), nil},
		{"a value at the border", list(part("a", trap(2, 2), 1, 1), part("b", trap(3, 3), 0, 0)), []int{0}},
		{"a value beyond it", list(part("a", trap(2, 2), 1, 1), part("b", trap(4, 3), 0, 0)), nil},
		{"another kind", list(part("a", series(2, 2), 0, 0), part("b", shunt(2, 2), 0, 0)), nil},
		{"without stock", list(priced(exact, 1, 0), priced(named("b", exact), 1, 0)), []int{1}},
	} {
		want(t, "Dominated: "+x.what, x.dominated)(crossover.Dominated(x.l))
	}
	for _, x := range wrongCatalogues() {
		fails[[]int](t, "Dominated: "+x.what, x.e)(crossover.Dominated(x.l))
	}
}

// isDominated tells by the values of each part whether the part i is dominated by the part k.
func isDominated(l []crossover.Part, i, k int) bool {
	isFor := func(i, k int) bool {
		for _, x := range valuesOf(l[k]) {
			if !slices.Contains(valuesOf(l[i]), x) {
				return false
			}
		}
		return l[k].Cost <= l[i].Cost && l[k].Stock >= l[i].Stock
	}
	return isFor(i, k) && (!isFor(k, i) || k < i)
}

// P4.1: Dominated against all pairs of parts.
func TestDominatedPairs(t *testing.T) {
	checked := 0
	next := random(17)
	for range 600 {
		l := drawnCatalogue(next, 6)
		var wanted []int
		for i := range l {
			for k := range l {
				if k != i && isDominated(l, i, k) {
					wanted = append(wanted, i)
					break
				}
			}
		}
		want(t, "Dominated", wanted)(crossover.Dominated(l))
		checked += len(wanted)
	}
	same(t, "enough parts that are dominated", checked > 50, true)
}

// P1: parts whose numbers are far beyond their limits end at once.
func TestFarParts(t *testing.T) {
	for _, x := range []int{math.MinInt, math.MinInt + 1, -1000000000, 1000000000, math.MaxInt - 1, math.MaxInt} {
		p := crossover.Part{Name: "far", Element: series(x, x), SlackA: x, SlackB: x, Cost: x, Stock: x}
		same(t, "CheckPart", crossover.CheckPart(p), api.ErrRange)
		p.Element = series(1, 1)
		same(t, "CheckPart", crossover.CheckPart(p), api.ErrRange)
		fails[[]network.Element](t, "Values", api.ErrRange)(crossover.Values(p))
		fails[[]int](t, "Dominated", api.ErrRange)(crossover.Dominated(list(p)))
	}
}
