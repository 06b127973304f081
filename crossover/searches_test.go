package crossover_test

import (
	"slices"
	"testing"

	"woofer/api"
	"woofer/crossover"
	"woofer/network"
)

// cheapest requires a choice and its cost.
func cheapest(t *testing.T, l []crossover.Part, c []crossover.Band, n int, choice []int, cost int) {
	t.Helper()
	gotChoice, gotCost, e := crossover.Cheapest(l, c, n)
	same(t, "Cheapest", []any{gotChoice, gotCost, e}, []any{choice, cost, api.OK})
}

// cheapestFails requires an error of Cheapest, and nothing beside it.
func cheapestFails(t *testing.T, l []crossover.Part, c []crossover.Band, n int, wanted api.Errno) {
	t.Helper()
	choice, cost, e := crossover.Cheapest(l, c, n)
	same(t, "Cheapest", []any{choice, cost, e}, []any{[]int{}, 0, wanted})
}

// P4.3: Cheapest of the chapter's example, and of others.
func TestCheapest(t *testing.T) {
	r, c := exampleK()[0], exampleK()[1]
	twin := func(cost, stock int) crossover.Part { return priced(part("twin", shunt(0, 1), 0, 0), cost, stock) }
	cheapest(t, exampleK(), quiet(), 2, []int{0, 1}, 8)
	cheapest(t, exampleK(), quiet(), 3, []int{0, 1}, 8)
	cheapestFails(t, exampleK(), quiet(), 1, api.ErrInfeasible)
	cheapestFails(t, exampleK(), quiet(), 0, api.ErrInfeasible)
	cheapestFails(t, nil, quiet(), 3, api.ErrInfeasible)
	// No part costs nothing, and has the level 1.
	cheapest(t, exampleK(), wide(1, 2, 3), 3, nil, 0)
	cheapest(t, nil, wide(8), 0, nil, 0)
	// Two resistors have the level 1/17 with c, and c is there once; a third part makes nothing better.
	cheapest(t, exampleK(), []crossover.Band{band(1, ratio(0, 1), ratio(1, 10))}, 3, []int{0, 0, 1}, 11)
	cheapestFails(t, exampleK(), []crossover.Band{band(1, ratio(0, 1), ratio(1, 10))}, 2, api.ErrInfeasible)
	cheapestFails(t, exampleK(), []crossover.Band{band(1, ratio(0, 1), ratio(1, 18))}, 3, api.ErrInfeasible)
	cheapestFails(t, list(priced(r, 3, 1), c), []crossover.Band{band(1, ratio(0, 1), ratio(1, 10))}, 3, api.ErrInfeasible)
	// Of equal costs the first choice, also of the same parts in another order.
	cheapest(t, list(r, c, twin(5, 1)), quiet(), 2, []int{0, 1}, 8)
	cheapest(t, list(twin(5, 1), r, c), quiet(), 2, []int{1, 0}, 8)
	cheapest(t, list(r, priced(c, 5, 0), twin(5, 1)), quiet(), 2, []int{0, 2}, 8)
	cheapest(t, list(r, c, twin(4, 1)), quiet(), 2, []int{0, 2}, 7)
	cheapest(t, list(r, c, twin(4, 0)), quiet(), 2, []int{0, 1}, 8)
	cheapest(t, list(r, c, priced(part("both", series(2, 0), 0, 0), 3, 1)), quiet(), 3, []int{0, 1}, 8)
	// Of equal costs the choice with fewer parts, though it has the greater indices.
	cheap, half := priced(part("cheap", series(0, 0), 0, 0), 1, 9), priced(part("half", series(2, 0), 0, 0), 4, 1)
	cheapest(t, list(cheap, r, c, half), quiet(), 3, []int{1, 2}, 8)
	cheapest(t, list(cheap, r, priced(c, 5, 1), half, twin(4, 1)), quiet(), 3, []int{1, 4}, 7)
	cheapest(t, list(cheap, half, priced(c, 6, 1), priced(r, 4, 0)), quiet(), 3, []int{1, 2}, 10)
	fewer := list(cheap, priced(r, 2, 1), priced(c, 5, 1), priced(half, 3, 1))
	cheapest(t, fewer, quiet(), 3, []int{1, 2}, 7)
	fewer[1].Stock = 0
	cheapest(t, fewer, quiet(), 3, []int{3, 2}, 8)
}

// P4.3: of a choice with more parts, and one of the same cost with fewer parts, the latter is the first one.
func TestCheapestOfEqualCosts(t *testing.T) {
	l := list(priced(part("single", shunt(0, 2), 0, 0), 1, 9), priced(part("double", shunt(0, 4), 0, 0), 2, 9), priced(part("r", series(1, 0), 0, 0), 1, 9))
	loud := []crossover.Band{band(1, ratio(1, 17), ratio(1, 17))}
	cheapest(t, l, loud, 3, []int{2, 1}, 3) // and not r, single, single
	l[1].Stock = 0
	cheapest(t, l, loud, 3, []int{2, 0, 0}, 3)
	l[1].Stock, l[1].Cost = 9, 3
	cheapest(t, l, loud, 3, []int{2, 0, 0}, 3)
}

// P4.3: Refuse of the chapter's example, and of others.
func TestRefuse(t *testing.T) {
	r, c, d := series(2, 0), shunt(0, 1), shunt(0, 0)
	refusal := func(choice []int, l ...network.Element) crossover.Refusal {
		return crossover.Refusal{Choice: choice, Fault: crossover.Fault{Ladder: l}}
	}
	none := refusal(nil)
	want(t, "Refuse", []crossover.Refusal{none, refusal([]int{0}, r), refusal([]int{1}, c), refusal([]int{2}, d)})(crossover.Refuse(exampleK(), quiet(), 1))
	want(t, "Refuse", []crossover.Refusal{none})(crossover.Refuse(exampleK(), quiet(), 0))
	want(t, "Refuse", []crossover.Refusal{none})(crossover.Refuse(nil, quiet(), 3))
	// Without c the choices of two parts are r, r; r, d and d, r.
	want(t, "Refuse", []crossover.Refusal{
		none, refusal([]int{0}, r), refusal([]int{1}, d), refusal([]int{0, 0}, r, r), refusal([]int{0, 1}, r, d), refusal([]int{1, 0}, d, r),
	})(crossover.Refuse(list(exampleK()[0], exampleK()[2]), quiet(), 2))
	fails[[]crossover.Refusal](t, "Refuse", api.ErrConflict)(crossover.Refuse(exampleK(), quiet(), 2))
	fails[[]crossover.Refusal](t, "Refuse", api.ErrConflict)(crossover.Refuse(exampleK(), wide(1), 0))
	narrow := []crossover.Band{band(1, ratio(1, 5), ratio(1, 1)), band(3, ratio(1, 1000), ratio(1, 37))}
	list := of[[]crossover.Refusal](t)(crossover.Refuse(exampleK(), narrow, 1))
	same(t, "the band of a fault", list[0].Fault.Band, 1)
	same(t, "CheckRefusals", crossover.CheckRefusals(exampleK(), narrow, 1, list), api.OK)
}

// P4.3: CheckRefusals.
func TestCheckRefusals(t *testing.T) {
	check := func(what string, e api.Errno, change func(r []crossover.Refusal) []crossover.Refusal) {
		t.Helper()
		r := change(of[[]crossover.Refusal](t)(crossover.Refuse(exampleK(), quiet(), 1)))
		same(t, "CheckRefusals: "+what, crossover.CheckRefusals(exampleK(), quiet(), 1, r), e)
	}
	check("as they are", api.OK, func(r []crossover.Refusal) []crossover.Refusal { return r })
	check("no list", api.ErrShape, func(r []crossover.Refusal) []crossover.Refusal { return nil })
	check("one too few", api.ErrShape, func(r []crossover.Refusal) []crossover.Refusal { return r[:3] })
	check("one too many", api.ErrShape, func(r []crossover.Refusal) []crossover.Refusal { return append(r, r[3]) })
	check("shape before order", api.ErrShape, func(r []crossover.Refusal) []crossover.Refusal { return r[1:] })
	check("another order", api.ErrOrder, func(r []crossover.Refusal) []crossover.Refusal {
		r[1], r[2] = r[2], r[1]
		return r
	})
	check("a choice of others", api.ErrOrder, func(r []crossover.Refusal) []crossover.Refusal {
		r[3].Choice = []int{-1, 7, 7, 7, 7}
		return r
	})
	check("a choice with a part more", api.ErrOrder, func(r []crossover.Refusal) []crossover.Refusal {
		r[3].Choice = []int{2, 2}
		return r
	})
	check("order before the fault", api.ErrOrder, func(r []crossover.Refusal) []crossover.Refusal {
		r[1] = crossover.Refusal{Fault: crossover.Fault{Band: -1}}
		return r
	})
	check("the fault before the order of the next one", api.ErrUnknown, func(r []crossover.Refusal) []crossover.Refusal {
		r[1].Fault.Band, r[2].Choice = 1, nil
		return r
	})
	check("no such band", api.ErrUnknown, func(r []crossover.Refusal) []crossover.Refusal {
		r[0].Fault.Band = -1
		return r
	})
	check("a ladder that is too short", api.ErrShape, func(r []crossover.Refusal) []crossover.Refusal {
		r[1].Fault.Ladder = nil
		return r
	})
	check("a ladder of other parts", api.ErrForm, func(r []crossover.Refusal) []crossover.Refusal {
		r[1].Fault.Ladder = row(shunt(0, 1))
		return r
	})
	check("another fault", api.OK, func(r []crossover.Refusal) []crossover.Refusal {
		r[3].Fault.Ladder = row(shunt(0, 2))
		return r
	})
	kept := of[[]crossover.Refusal](t)(crossover.Refuse(exampleK(), quiet(), 0))
	same(t, "CheckRefusals of a ladder that keeps", crossover.CheckRefusals(exampleK(), wide(1), 0, kept), api.ErrProof)
}

// P4.3: there are no refusals of a corridor that a choice keeps.
func TestCheckRefusalsOfKept(t *testing.T) {
	var r []crossover.Refusal
	for _, choice := range choicesOf(exampleK(), 2) {
		faults := faultsOf(exampleK(), choice, quiet())
		if len(faults) == 0 {
			faults = []crossover.Fault{{Ladder: row(series(2, 0), shunt(0, 1))}}
		}
		r = append(r, crossover.Refusal{Choice: choice, Fault: faults[0]})
	}
	same(t, "CheckRefusals", crossover.CheckRefusals(exampleK(), quiet(), 2, r), api.ErrProof)
	without := slices.DeleteFunc(r, func(x crossover.Refusal) bool { return slices.Equal(x.Choice, []int{0, 1}) })
	same(t, "CheckRefusals", crossover.CheckRefusals(exampleK(), quiet(), 2, without), api.ErrShape)
}

// P4.3: the errors of arguments, from left to right.
func TestWrongSearches(t *testing.T) {
	wrong := func(l []crossover.Part, c []crossover.Band, n int, e api.Errno) {
		t.Helper()
		cheapestFails(t, l, c, n, e)
		fails[[]crossover.Refusal](t, "Refuse", e)(crossover.Refuse(l, c, n))
		same(t, "CheckRefusals", crossover.CheckRefusals(l, c, n, nil), e)
	}
	for _, x := range wrongCatalogues() {
		wrong(x.l, quiet(), 2, x.e)
		wrong(x.l, nil, -1, x.e)
	}
	for _, x := range wrongCorridors() {
		wrong(exampleK(), x.c, 2, x.e)
		wrong(exampleK(), x.c, -1, x.e)
	}
	for _, n := range wrongNumbers {
		wrong(exampleK(), quiet(), n, api.ErrRange)
		wrong(nil, wide(1), n, api.ErrRange)
	}
}

// cheapestOf returns the cheapest choice by a look at all faults of all choices, and whether there is one.
func cheapestOf(l []crossover.Part, c []crossover.Band, n int) ([]int, int, bool) {
	var best []int
	least, found := 0, false
	for _, choice := range choicesOf(l, n) {
		cost := 0
		for _, i := range choice {
			cost += l[i].Cost
		}
		if (!found || cost < least) && len(faultsOf(l, choice, c)) == 0 {
			best, least, found = choice, cost, true
		}
	}
	return best, least, found
}

// P4.3: Cheapest, Refuse and CheckRefusals against all choices.
func TestSearchesOfChoices(t *testing.T) {
	sizes := map[int]int{} // numbers of parts of the cheapest choices; -1 if there is none
	for x := range someSearches(random(31)) {
		l, c, n := x.l, x.c, x.n
		choice, cost, found := cheapestOf(l, c, n)
		if found {
			cheapest(t, l, c, n, choice, cost)
			fails[[]crossover.Refusal](t, "Refuse", api.ErrConflict)(crossover.Refuse(l, c, n))
			sizes[len(choice)]++
			continue
		}
		sizes[-1]++
		cheapestFails(t, l, c, n, api.ErrInfeasible)
		var first, last []crossover.Refusal
		for _, choice := range choicesOf(l, n) {
			faults := faultsOf(l, choice, c)
			first = append(first, crossover.Refusal{Choice: choice, Fault: faults[0]})
			last = append(last, crossover.Refusal{Choice: choice, Fault: faults[len(faults)-1]})
		}
		want(t, "Refuse", first)(crossover.Refuse(l, c, n))
		same(t, "CheckRefusals", crossover.CheckRefusals(l, c, n, first), api.OK)
		same(t, "CheckRefusals of the last faults", crossover.CheckRefusals(l, c, n, last), api.OK)
	}
	same(t, "enough choices of each size", []bool{sizes[-1] > 50, sizes[0] > 20, sizes[2] > 20, sizes[3] > 5}, "[true true true true]")
}
