package crossover

import (
	"slices"

	"woofer/api"
	"woofer/common"
	"woofer/network"
	"woofer/signal"
)

// CheckPart returns the first error of a part, or OK.
func CheckPart(p Part) api.Errno {
	e := common.First(
		common.When(!signal.IsName(p.Name), api.ErrName),
		checkElement(p.Element),
		common.CheckRange(p.SlackA, 0, MaxSlack),
		common.CheckRange(p.SlackB, 0, MaxSlack),
		common.CheckRange(p.Cost, 1, MaxCost),
		common.CheckRange(p.Stock, 0, MaxStock),
	)
	if e != api.OK {
		return e
	}
	// With a slack beyond its range there could be too many values to look at.
	wrong := common.First(common.Mapped(valuesOf(p), checkElement)...)
	return common.When(wrong != api.OK, api.ErrForm)
}

// checkElement returns the first error of an element, or OK.
func checkElement(x network.Element) api.Errno {
	return network.CheckLadder([]network.Element{x})
}

// CheckCatalogue returns the first error of a catalogue, or OK.
func CheckCatalogue(l []Part) api.Errno {
	if len(l) > MaxCatalogue {
		return api.ErrMany
	}
	isTaken := map[string]bool{}
	for _, p := range l {
		e := common.First(CheckPart(p), common.When(isTaken[p.Name], api.ErrTwice))
		if e != api.OK {
			return e
		}
		isTaken[p.Name] = true
	}
	return api.OK
}

// valuesOf returns the values of a part, in their order.
func valuesOf(p Part) []network.Element {
	x := p.Element
	var values []network.Element
	for a := x.A - p.SlackA; a <= x.A+p.SlackA; a++ {
		for b := x.B - p.SlackB; b <= x.B+p.SlackB; b++ {
			values = append(values, network.Element{Kind: x.Kind, A: a, B: b})
		}
	}
	return values
}

// cornersOf returns the values of a part with the least or the greatest A, and the least or the greatest B.
func cornersOf(p Part) []network.Element {
	return common.Filtered(valuesOf(p), func(x network.Element) bool {
		return distance(x.A, p.Element.A) == p.SlackA && distance(x.B, p.Element.B) == p.SlackB
	})
}

func distance(a, b int) int {
	return common.Absolute(a - b)
}

// Values returns the values of a part.
func Values(p Part) ([]network.Element, api.Errno) {
	if e := CheckPart(p); e != api.OK {
		return nil, e
	}
	return valuesOf(p), api.OK
}

// indices returns the indices of the parts of a catalogue.
func indices(l []Part) []int {
	list := make([]int, len(l))
	for i := range list {
		list[i] = i
	}
	return list
}

// Dominated returns the parts that another part makes superfluous.
func Dominated(l []Part) ([]int, api.Errno) {
	if e := CheckCatalogue(l); e != api.OK {
		return nil, e
	}
	return common.Filtered(indices(l), func(i int) bool {
		return isDominated(l, i)
	}), api.OK
}

// isDominated reports whether another part of a catalogue dominates the one with an index.
func isDominated(l []Part, i int) bool {
	for k, p := range l {
		// Of two parts that replace each other, the first one stays.
		if k != i && replaces(p, l[i]) && (k < i || !replaces(l[i], p)) {
			return true
		}
	}
	return false
}

// replaces reports whether p has no values that q has not, costs no more, and has at least the same stock.
func replaces(p, q Part) bool {
	values := valuesOf(q)
	isOther := func(x network.Element) bool { return !slices.Contains(values, x) }
	return p.Cost <= q.Cost && p.Stock >= q.Stock && !slices.ContainsFunc(valuesOf(p), isOther)
}
