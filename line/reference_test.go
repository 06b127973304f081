package line_test

import (
	"slices"
)

// gap returns the difference of two units.
func gap(a, b unit) int {
	most := 0
	for i := range a.Values {
		most = max(most, a.Values[i]-b.Values[i], b.Values[i]-a.Values[i])
	}
	return most
}

// worstOf returns the worst difference of a pairing.
func worstOf(l []unit, pairing [][2]int) int {
	worst := 0
	for _, p := range pairing {
		worst = max(worst, gap(l[p[0]], l[p[1]]))
	}
	return worst
}

// orders returns all orders of n elements.
func orders(n int) [][]int {
	if n == 0 {
		return [][]int{nil}
	}
	var all [][]int
	for _, order := range orders(n - 1) {
		for at := range n {
			all = append(all, slices.Insert(slices.Clone(order), at, n-1))
		}
	}
	return all
}

// pairingOf returns the pairing of two after two units of an order.
func pairingOf(order []int) [][2]int {
	var pairing [][2]int
	for p := range slices.Chunk(order, 2) {
		pairing = append(pairing, [2]int{min(p[0], p[1]), max(p[0], p[1])})
	}
	slices.SortFunc(pairing, func(p, q [2]int) int { return p[0] - q[0] })
	return pairing
}

// isBefore reports whether a pairing comes before another one.
func isBefore(p, q [][2]int) bool {
	for i := range p {
		if p[i] != q[i] {
			return p[i][1] < q[i][1]
		}
	}
	return false
}

// bestPairing returns the best pairing of an even number of units, and its worst difference: all orders are looked at.
func bestPairing(l []unit) ([][2]int, int) {
	var best [][2]int
	least := -1
	for _, order := range orders(len(l)) {
		pairing := pairingOf(order)
		worst := worstOf(l, pairing)
		if least < 0 || worst < least || worst == least && isBefore(pairing, best) {
			best, least = pairing, worst
		}
	}
	return best, least
}

// isProof reports whether a set proves that no pairing has a worst difference below a value: from each unit that is not in
// the set and that was not reached, all units are counted that are reached by joins.
func isProof(l []unit, below int, set []int) bool {
	isReached := make([]bool, len(l))
	for _, i := range set {
		isReached[i] = true
	}
	var reached func(i int) int
	reached = func(i int) int {
		isReached[i] = true
		count := 1
		for k := range l {
			if !isReached[k] && gap(l[i], l[k]) < below {
				count += reached(k)
			}
		}
		return count
	}
	odd := 0
	for i := range l {
		if !isReached[i] {
			odd += reached(i) % 2
		}
	}
	return odd > len(set)
}

// allSets returns all sets of n elements: those with fewer elements first, and then those with the lesser element at the
// first place at which they differ.
func allSets(n int) [][]int {
	var all [][]int
	for digits := range 1 << n {
		var set []int
		for i := range n {
			if digits>>i&1 == 1 {
				set = append(set, i)
			}
		}
		all = append(all, set)
	}
	slices.SortFunc(all, func(a, b []int) int {
		if len(a) != len(b) {
			return len(a) - len(b)
		}
		return slices.Compare(a, b)
	})
	return all
}

// proofOf returns the first set with the fewest units that proves that no pairing has a worst difference below a value, and
// whether there is one.
func proofOf(l []unit, below int) ([]int, bool) {
	for _, set := range allSets(len(l)) {
		if isProof(l, below, set) {
			return set, true
		}
	}
	return nil, false
}
