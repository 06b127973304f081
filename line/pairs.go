package line

import (
	"iter"
	"slices"

	"woofer/api"
	"woofer/common"
)

// pair is the indices of two units, the lesser one first.
type pair = [2]int

// differenceOf returns the difference of two units with equally many values.
func differenceOf(a, b Unit) int {
	most := 0
	for test, value := range a.Values {
		most = max(most, common.Absolute(value-b.Values[test]))
	}
	return most
}

// Difference returns the difference of two units.
func Difference(a, b Unit) (int, api.Errno) {
	e := common.First(
		checkUnit(a),
		checkUnit(b),
		common.When(len(a.Values) != len(b.Values), api.ErrShape),
	)
	if e != api.OK {
		return 0, e
	}
	return differenceOf(a, b), api.OK
}

// differencesOf returns the differences of pairs of units, and 0, the worst difference without pairs; they ascend.
func differencesOf(l []Unit, pairs []pair) []int {
	list := []int{0}
	for _, p := range pairs {
		list = append(list, differenceOf(l[p[0]], l[p[1]]))
	}
	slices.Sort(list)
	return list
}

// indices returns those of n elements.
func indices(n int) []int {
	list := make([]int, n)
	for i := range list {
		list[i] = i
	}
	return list
}

// allPairs returns the pairs of n units.
func allPairs(n int) []pair {
	var list []pair
	for b := range n {
		for a := range b {
			list = append(list, pair{a, b})
		}
	}
	return list
}

// joined returns the pairs of units that are joined below a value.
func joined(l []Unit, below int) []pair {
	return common.Filtered(allPairs(len(l)), func(p pair) bool {
		return differenceOf(l[p[0]], l[p[1]]) < below
	})
}

// pairings visits the pairings of an even number of units in their order. Each one is new memory.
func pairings(units []int) iter.Seq[[]pair] {
	return func(yield func([]pair) bool) {
		if len(units) == 0 {
			yield(nil)
			return
		}
		for i := 1; i < len(units); i++ {
			first := pair{units[0], units[i]}
			for others := range pairings(slices.Concat(units[1:i], units[i+1:])) {
				if !yield(slices.Concat([]pair{first}, others)) {
					return
				}
			}
		}
	}
}

// bestOf returns the best pairing of an even number of units, and its worst difference.
func bestOf(l []Unit) ([]pair, int) {
	var best []pair
	worst := 0
search:
	for _, most := range differencesOf(l, allPairs(len(l))) {
		joins := joined(l, most+1)
		isWorse := func(p pair) bool { return !slices.Contains(joins, p) }
		for pairing := range pairings(indices(len(l))) {
			if !slices.ContainsFunc(pairing, isWorse) {
				best, worst = pairing, most
				break search
			}
		}
	}
	return best, worst
}

// Pairs returns the pairing with the least worst difference, and this difference.
func Pairs(l []Unit) ([][2]int, int, api.Errno) {
	e := common.First(
		CheckUnits(l),
		common.When(len(l)%2 != 0, api.ErrMatch),
		common.When(len(l) > api.MaxExact, api.ErrLimit),
	)
	if e != api.OK {
		return nil, 0, e
	}
	best, worst := bestOf(l)
	return best, worst, api.OK
}

// checkPairing returns the first error of pairs of n units, or OK.
func checkPairing(n int, pairs []pair) api.Errno {
	isTaken := map[int]bool{}
	before := -1 // less than all indices
	for _, p := range pairs {
		a, b := p[0], p[1]
		e := common.First(
			common.When(!common.Within(a, 0, n-1) || !common.Within(b, 0, n-1), api.ErrUnknown),
			common.When(a >= b || a <= before, api.ErrOrder),
			common.When(isTaken[a] || isTaken[b], api.ErrTwice),
		)
		if e != api.OK {
			return e
		}
		isTaken[a], isTaken[b], before = true, true, a
	}
	return api.OK
}

// CheckPairs returns the worst difference of a pairing, or its first error.
func CheckPairs(l []Unit, pairs [][2]int) (int, api.Errno) {
	e := common.First(
		CheckUnits(l),
		common.When(len(l)%2 != 0, api.ErrMatch),
		common.When(2*len(pairs) != len(l), api.ErrShape),
		checkPairing(len(l), pairs),
	)
	if e != api.OK {
		return 0, e
	}
	return slices.Max(differencesOf(l, pairs)), api.OK
}

// Typical returns the unit that is most like all others.
func Typical(l []Unit) (int, api.Errno) {
	if e := common.First(CheckUnits(l), common.When(len(l) == 0, api.ErrEmpty)); e != api.OK {
		return 0, e
	}
	greatest := common.Mapped(l, func(u Unit) int {
		return slices.Max(common.Mapped(l, func(other Unit) int { return differenceOf(u, other) }))
	})
	return slices.Index(greatest, slices.Min(greatest)), api.OK
}
