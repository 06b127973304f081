package protect

import (
	"iter"
	"slices"

	"woofer/api"
	"woofer/common"
)

// permitted visits the levels that keep both limits in a state, each with the state behind it.
func permitted(g Guard, s State, levels []int) iter.Seq2[int, State] {
	return func(yield func(int, State) bool) {
		for _, output := range levels {
			next, isPermitted := attempt(g, s, output)
			if isPermitted && !yield(output, next) {
				return
			}
		}
	}
}

// loudestOf returns the loudest signal of n levels from a state on, and whether there is one.
func loudestOf(g Guard, s State, levels []int, n int) ([]int, bool) {
	if n == 0 {
		return nil, true
	}
	var best []int
	// Of the signals with the same energy the one that comes first is found first: the levels ascend.
	for output, next := range permitted(g, s, levels) {
		others, found := loudestOf(g, next, levels, n-1)
		list := slices.Concat([]int{output}, others)
		if found && (best == nil || energyOf(list) > energyOf(best)) {
			best = list
		}
	}
	return best, best != nil
}

// checkLevels returns the first error of levels, or OK.
func checkLevels(levels []int) api.Errno {
	return common.First(
		common.When(len(levels) == 0, api.ErrEmpty),
		common.When(len(levels) > MaxLevels, api.ErrMany),
		checkAscending(levels, -MaxValue, MaxValue),
	)
}

// Loudest returns the outputs with the greatest energy, of some levels.
func Loudest(g Guard, levels []int, n int) ([]int, api.Errno) {
	e := common.First(
		CheckGuard(g),
		checkLevels(levels),
		common.CheckRange(n, 0, MaxSearch),
	)
	if e != api.OK {
		return nil, e
	}
	list, found := loudestOf(g, restOf(g), levels, n)
	return list, common.When(!found, api.ErrInfeasible)
}

// energyOf returns the sum of the squares of outputs.
func energyOf(l []int) int {
	sum := 0
	for _, x := range l {
		sum += x * x
	}
	return sum
}

// Energy returns the sum of the squares of outputs.
func Energy(l []int) (int, api.Errno) {
	if e := checkSignal(l); e != api.OK {
		return 0, e
	}
	return energyOf(l), api.OK
}
