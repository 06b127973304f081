package crossover

import (
	"cmp"
	"slices"

	"woofer/api"
	"woofer/common"
)

// checkSearch returns the first error of what is searched: a catalogue, a corridor and a number of parts.
func checkSearch(l []Part, c []Band, n int) api.Errno {
	return common.First(
		CheckCatalogue(l),
		CheckCorridor(c),
		common.CheckRange(n, 0, MaxParts),
	)
}

// option is a choice with its cost.
type option struct {
	choice []int
	cost   int
}

// compare compares the costs of two options.
func (o option) compare(p option) int {
	return cmp.Compare(o.cost, p.cost)
}

// Cheapest returns the cheapest choice that keeps a corridor, and its cost.
func Cheapest(l []Part, c []Band, n int) ([]int, int, api.Errno) {
	if e := checkSearch(l, c, n); e != api.OK {
		return nil, 0, e
	}
	options := common.Mapped(slices.Collect(choices(l, n)), func(choice []int) option {
		return option{choice: choice, cost: costOf(l, choice)}
	})
	// Choices of the same cost stay in their order, so that the first one that keeps the corridor is the one to return.
	slices.SortStableFunc(options, option.compare)
	for _, o := range options {
		if _, found := firstFault(l, o.choice, c); !found {
			return o.choice, o.cost, api.OK
		}
	}
	return nil, 0, api.ErrInfeasible
}

// Refuse returns a fault of each choice.
func Refuse(l []Part, c []Band, n int) ([]Refusal, api.Errno) {
	if e := checkSearch(l, c, n); e != api.OK {
		return nil, e
	}
	var list []Refusal
	for choice := range choices(l, n) {
		first, found := firstFault(l, choice, c)
		if !found {
			return nil, api.ErrConflict
		}
		list = append(list, Refusal{Choice: choice, Fault: first})
	}
	return list, api.OK
}

// CheckRefusals returns OK for refusals of all choices.
func CheckRefusals(l []Part, c []Band, n int, r []Refusal) api.Errno {
	if e := checkSearch(l, c, n); e != api.OK {
		return e
	}
	refused := slices.Collect(choices(l, n))
	if len(r) != len(refused) {
		return api.ErrShape
	}
	for i, x := range r {
		if !slices.Equal(x.Choice, refused[i]) {
			return api.ErrOrder
		}
		if e := checkFault(l, refused[i], c, x.Fault); e != api.OK {
			return e
		}
	}
	return api.OK
}
