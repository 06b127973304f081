package protect

import (
	"sort"

	"woofer/api"
	"woofer/common"
)

// steadyOf returns the steady output.
func steadyOf(g Guard) int {
	loss := g.Heat >> g.Leak
	return sort.Search(MaxValue, func(output int) bool {
		louder := output + 1
		return louder*louder > loss
	})
}

// Steady returns the greatest output that keeps the heat at its limit.
func Steady(g Guard) (int, api.Errno) {
	if e := CheckGuard(g); e != api.OK {
		return 0, e
	}
	return steadyOf(g), api.OK
}

// Quiet returns the greatest input that passes always with the greatest gain.
func Quiet(g Guard) (int, api.Errno) {
	if e := CheckGuard(g); e != api.OK {
		return 0, e
	}
	most := MaxValue
	if taps := rowOf(g.Taps); taps != (row{}) {
		most = g.Reach / weight(taps)
	}
	return min(steadyOf(g), most), api.OK
}

// weight returns the sum of the absolute values of taps.
func weight(taps row) int {
	sum := 0
	for _, tap := range taps {
		sum += common.Absolute(tap)
	}
	return sum
}

// Cool returns how many steps without outputs lead to a heat.
func Cool(g Guard, from, to int) (int, api.Errno) {
	if e := common.First(CheckGuard(g), checkHeat(from), checkHeat(to)); e != api.OK {
		return 0, e
	}
	heat := from
	seen := map[int]bool{}
	// Each step leads to less heat, or for ever to the same one.
	for n := range from + 1 {
		if heat <= to {
			return n, api.OK
		}
		if seen[heat] {
			break
		}
		seen[heat] = true
		heat = cooled(g, heat)
	}
	return 0, api.ErrInfeasible
}

// Release returns how many steps without inputs lead to the greatest gain.
func Release(g Guard, s State) (int, api.Errno) {
	if e := CheckState(g, s); e != api.OK {
		return 0, e
	}
	if !isSafe(g, s) {
		return 0, api.ErrState
	}
	// The input 0 has the output 0 by each gain, which is permitted in a safe state: the index rises by 1 in each step.
	return len(g.Gains) - 1 - s.Level, api.OK
}
