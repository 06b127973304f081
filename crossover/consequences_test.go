package crossover_test

import (
	"fmt"
	"math"
	"slices"
	"testing"

	"woofer/api"
	"woofer/crossover"
	"woofer/network"
)

// P4.5: a choice either keeps a corridor or has a fault, and not both.
func TestKeepsOrFails(t *testing.T) {
	next := random(41)
	for l, choice := range someChoices(next) {
		c := drawnCorridor(next)
		f, e := crossover.Fails(l, choice, c)
		if e == api.OK {
			same(t, "CheckFault", crossover.CheckFault(l, choice, c, f), api.OK)
			continue
		}
		same(t, "Fails", e, api.ErrNone)
		for i, b := range c {
			for _, ladder := range laddersOf(l, choice) {
				same(t, "CheckFault", crossover.CheckFault(l, choice, c, crossover.Fault{Band: i, Ladder: ladder}), api.ErrProof)
			}
			levels := of[[2]api.Ratio](t)(crossover.Extremes(l, choice, b.W))
			same(t, "the least level", rational(levels[0]).Cmp(rational(b.Least)) >= 0, true)
			same(t, "the greatest level", rational(levels[1]).Cmp(rational(b.Most)) <= 0, true)
		}
	}
}

// P4.5, P5: there is a cheapest choice if and only if the corridor cannot be refused; it is in stock, keeps the corridor,
// and costs what is said.
func TestCheapestOrRefused(t *testing.T) {
	for x := range someSearches(random(43)) {
		choice, cost, e := crossover.Cheapest(x.l, x.c, x.n)
		r, refused := crossover.Refuse(x.l, x.c, x.n)
		if e == api.OK {
			same(t, "Refuse", refused, api.ErrConflict)
			want(t, "Stocked", true)(crossover.Stocked(x.l, choice))
			want(t, "Cost", cost)(crossover.Cost(x.l, choice))
			fails[crossover.Fault](t, "Fails", api.ErrNone)(crossover.Fails(x.l, choice, x.c))
			continue
		}
		same(t, "errors", []api.Errno{e, refused}, []api.Errno{api.ErrInfeasible, api.OK})
		same(t, "CheckRefusals", crossover.CheckRefusals(x.l, x.c, x.n, r), api.OK)
	}
}

// price returns the cost of the cheapest choice, and more than all costs if there is none.
func price(x search) int {
	_, cost, e := crossover.Cheapest(x.l, x.c, x.n)
	if e != api.OK {
		return math.MaxInt
	}
	return cost
}

// P4.5: wider corridors, more parts and greater stocks never make the cheapest choice dearer.
func TestMoreIsNotDearer(t *testing.T) {
	next := random(47)
	cheaper := [5]int{}
	for x := range someSearches(next) {
		cost := price(x)
		for i, change := range []func(x *search){
			func(x *search) { x.n = min(x.n+1, crossover.MaxParts) },
			func(x *search) { x.l = append(slices.Clip(x.l), part("more", shunt(next(0, 8), next(3, 8)), 0, 0)) },
			func(x *search) {
				x.l = slices.Clone(x.l)
				for i := range x.l {
					x.l[i].Stock += next(0, 2)
				}
			},
			func(x *search) { x.c[next(0, len(x.c)-1)].Most = ratio(1000, 1) },
			func(x *search) { x.c[next(0, len(x.c)-1)].Least = ratio(0, 1) },
		} {
			more := search{l: x.l, c: slices.Clone(x.c), n: x.n}
			change(&more)
			changed := price(more)
			same(t, "dearer", changed > cost, false)
			if changed < cost {
				cheaper[i]++
			}
		}
	}
	same(t, "cheaper for each reason", slices.Min(cheaper[:]) > 2, true)
}

// P4.5: of at most one part the cheapest choice costs the same without dominated parts.
func TestWithoutDominated(t *testing.T) {
	dominated := 0
	for x := range someSearches(random(53)) {
		x.n = min(x.n, 1)
		var rest []crossover.Part
		without := of[[]int](t)(crossover.Dominated(x.l))
		for i, p := range x.l {
			if !slices.Contains(without, i) {
				rest = append(rest, p)
			}
		}
		dominated += len(without)
		same(t, "cost", price(search{l: rest, c: x.c, n: x.n}), price(x))
		same(t, "a part stays", len(rest) > 0 || len(x.l) == 0, true)
	}
	same(t, "enough parts that are dominated", dominated > 20, true)
}

// P4.5: of series and shunt elements corners have the least level.
func TestCornersAreLeast(t *testing.T) {
	next := random(59)
	checked := 0
	for range 300 {
		l := drawnFilters(next)
		choice := drawnChoice(next, l)
		for w := 1; w <= network.MaxW; w++ {
			levels, e := crossover.Extremes(l, choice, w)
			if e != api.OK {
				continue
			}
			want(t, "Corners", levels[0])(crossover.Corners(l, choice, w))
			if levels[0] != levels[1] {
				checked++
			}
		}
	}
	same(t, "enough levels", checked > 200, true)
}

// P4.5: the sum of two branches does not depend on their order, but for its sign if one is inverted.
func TestSumsCommute(t *testing.T) {
	for i, a := range someBranches() {
		for k, b := range someBranches() {
			w := (i+k)%network.MaxW + 1
			sum, e := crossover.Sum(a, b, w, false)
			if e != api.OK {
				fails[network.Pair](t, "Sum", e)(crossover.Sum(b, a, w, false))
				continue
			}
			want(t, "Sum", sum)(crossover.Sum(b, a, w, false))
			difference := of[network.Pair](t)(crossover.Sum(a, b, w, true))
			num := g(-difference.Num.Re, -difference.Num.Im)
			want(t, "Sum, inverted", pair(num, difference.Den))(crossover.Sum(b, a, w, true))
			for _, inverted := range []bool{false, true} {
				level := of[api.Ratio](t)(crossover.SumLevel(a, b, w, inverted))
				want(t, "SumLevel", level)(crossover.SumLevel(b, a, w, inverted))
			}
		}
	}
}

// P4.5: catalogues are parsed as they were printed.
func TestCataloguesComeBack(t *testing.T) {
	next := random(61)
	for range 500 {
		l := drawnCatalogue(next, 6)
		parses(t, of[string](t)(crossover.Print(l)), l)
	}
}

// P4.1 to P4.3, the rule Memory: arguments are not modified, and results share no memory with them or with each other.
func TestMemory(t *testing.T) {
	l, c, choice := exampleK(), quiet(), []int{0, 2}
	f := crossover.Fault{Ladder: row(series(2, 0), shunt(0, 0))}
	results := func() (text string, change func()) {
		left := of[[]crossover.Part](t)(crossover.Take(l, choice))
		values := of[[]network.Element](t)(crossover.Values(l[2]))
		fault := of[crossover.Fault](t)(crossover.Fails(l, choice, c))
		refusals := of[[]crossover.Refusal](t)(crossover.Refuse(l[1:], c, 2))
		cheapest, _, _ := crossover.Cheapest(l, c, 2)
		dominated := of[[]int](t)(crossover.Dominated(list(l[0], priced(part("dear", series(2, 0), 0, 0), 9, 1))))
		same(t, "CheckRefusals", crossover.CheckRefusals(l[1:], c, 2, refusals), api.OK)
		same(t, "CheckFault", crossover.CheckFault(l, choice, c, f), api.OK)
		crossover.Sum(f.Ladder, f.Ladder, 1, true)
		crossover.Crossing(f.Ladder, f.Ladder, 1, 2)
		return fmt.Sprint(left, values, fault, refusals, cheapest, dominated), func() {
			left[0].Name, values[0].A, fault.Ladder[0].A, cheapest[0], dominated[0] = "changed", 9, 9, 9, 9
			first := refusals[1]
			first.Choice[0], first.Fault.Ladder[0].Kind = 9, "changed"
			again := fmt.Sprint(refusals[2:])
			same(t, "other refusals", again, fmt.Sprint(of[[]crossover.Refusal](t)(crossover.Refuse(l[1:], c, 2))[2:]))
		}
	}
	before := fmt.Sprint(l, c, choice, f)
	wanted, change := results()
	same(t, "arguments", fmt.Sprint(l, c, choice, f), before)
	change()
	same(t, "arguments behind a change of results", fmt.Sprint(l, c, choice, f), before)
	text, _ := results()
	same(t, "results behind it", text, wanted)
}

// P4.3, the rule Memory: no two lists of refusals share memory.
func TestRefusalsShareNothing(t *testing.T) {
	r := of[[]crossover.Refusal](t)(crossover.Refuse(exampleK()[1:], quiet(), 3))
	for i := range r {
		before := fmt.Sprint(r[:i], r[i+1:])
		r[i].Choice = append(r[i].Choice, -1)
		r[i].Fault.Ladder = append(r[i].Fault.Ladder, trap(9, 9))
		for k := range r[i].Choice {
			r[i].Choice[k], r[i].Fault.Ladder[k] = -1, trap(9, 9)
		}
		same(t, "other refusals", fmt.Sprint(r[:i], r[i+1:]), before)
	}
}

// P1: no function panics, whatever its arguments are.
func TestNothingPanics(t *testing.T) {
	numbers := []int{math.MinInt, math.MinInt32, -1, 0, 1, 2, 9, 1000, math.MaxInt32, math.MaxInt}
	for _, a := range numbers {
		for _, b := range numbers {
			x := network.Element{Kind: "trap", A: a, B: b}
			p := crossover.Part{Name: "p", Element: x, SlackA: b, SlackB: a, Cost: b, Stock: a}
			c := []crossover.Band{{W: a, Least: ratio(a, b), Most: ratio(b, a)}, {W: 1, Least: ratio(b, a), Most: ratio(a, b)}}
			f := crossover.Fault{Band: a, Ladder: row(x, x)}
			for _, l := range [][]crossover.Part{list(p), list(part("q", x, a, b)), list(part("q", series(1, 1), a, b)), exampleK(), nil} {
				for _, choice := range [][]int{nil, {a, b}, {0, 2}, numbers} {
					for _, corridor := range [][]crossover.Band{c, quiet(), nil} {
						crossover.Fails(l, choice, corridor)
						crossover.CheckFault(l, choice, corridor, f)
						crossover.CheckRefusals(l, corridor, b, []crossover.Refusal{{Choice: choice, Fault: f}})
					}
					crossover.Cost(l, choice)
					crossover.Stocked(l, choice)
					crossover.Take(l, choice)
					crossover.Extremes(l, choice, a)
					crossover.Corners(l, choice, b)
				}
				crossover.Cheapest(l, c, a)
				crossover.Cheapest(l, quiet(), b)
				crossover.Refuse(l, c, b)
				crossover.Refuse(l, quiet(), a)
				crossover.Dominated(l)
				crossover.Print(l)
			}
			crossover.Values(p)
			crossover.Sum(row(x), row(series(a, b)), a, true)
			crossover.SumLevel(row(x), row(series(8, 8)), b, false)
			crossover.Crossing(row(shunt(a, b)), row(x), a, b)
			crossover.Crossing(low(), high(), a, b)
		}
	}
	crossover.Parse("\xff \x00 1 2 3 4 5 6\n\n")
}
