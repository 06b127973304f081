package line

import (
	"iter"
	"slices"

	"woofer/api"
	"woofer/common"
)

// checkBelow returns the error of a value that differences are below, or OK.
func checkBelow(below int) api.Errno {
	return common.CheckRange(below, 1, 2*MaxValue+1)
}

// merge puts all units of a part into another one; parts has the part of each unit.
func merge(parts []int, from, to int) {
	for i, part := range parts {
		if part == from {
			parts[i] = to
		}
	}
}

// oddParts returns how many parts with an odd number of units there are of n units that are not in a set.
func oddParts(n int, joins []pair, set []int) int {
	isOther := func(i int) bool { return !slices.Contains(set, i) }
	parts := indices(n)
	for _, p := range joins {
		if isOther(p[0]) && isOther(p[1]) {
			merge(parts, parts[p[0]], parts[p[1]])
		}
	}
	isOdd := make([]bool, n)
	for _, i := range common.Filtered(indices(n), isOther) {
		isOdd[parts[i]] = !isOdd[parts[i]]
	}
	return len(common.Filtered(isOdd, func(is bool) bool { return is }))
}

// proves reports whether a set proves that n units with these joins have no pairing.
func proves(n int, joins []pair, set []int) bool {
	return oddParts(n, joins, set) > len(set)
}

// setsOf visits the sets with a size of the indices from least to n - 1, in their order. Each one is new memory.
func setsOf(least, n, size int) iter.Seq[[]int] {
	return func(yield func([]int) bool) {
		if size == 0 {
			yield(nil)
			return
		}
		for first := least; first < n; first++ {
			for others := range setsOf(first+1, n, size-1) {
				if !yield(slices.Concat([]int{first}, others)) {
					return
				}
			}
		}
	}
}

// Prove returns a set that proves that no pairing has a worst difference below a value.
func Prove(l []Unit, below int) ([]int, api.Errno) {
	e := common.First(
		CheckUnits(l),
		common.When(len(l) > api.MaxExact, api.ErrLimit),
		checkBelow(below),
	)
	if e != api.OK {
		return nil, e
	}
	joins := joined(l, below)
	for size := range len(l) + 1 {
		for set := range setsOf(0, len(l), size) {
			if proves(len(l), joins, set) {
				return set, api.OK
			}
		}
	}
	return nil, api.ErrNone
}

// checkSet returns the first error of a set of n units, or OK.
func checkSet(n int, set []int) api.Errno {
	before := -1 // less than all indices
	for _, i := range set {
		e := common.First(
			common.When(!common.Within(i, 0, n-1), api.ErrUnknown),
			common.When(i <= before, api.ErrOrder),
		)
		if e != api.OK {
			return e
		}
		before = i
	}
	return api.OK
}

// CheckProof returns OK for a set that proves it.
func CheckProof(l []Unit, below int, set []int) api.Errno {
	e := common.First(
		CheckUnits(l),
		checkBelow(below),
		checkSet(len(l), set),
	)
	if e != api.OK {
		return e
	}
	return common.When(!proves(len(l), joined(l, below), set), api.ErrProof)
}
