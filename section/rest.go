package section

import (
	"woofer/api"
	"woofer/common"
)

// Settle returns after how many steps a section without input is at rest, or in a cycle, and the length of the cycle.
func Settle(s Section, x State) (int, int, api.Errno) {
	if e := common.First(CheckSection(s), CheckState(x)); e != api.OK {
		return 0, 0, e
	}
	seen := map[State]int{} // behind how many steps
	begin, length := 0, 0
search:
	for n := range MaxSteps + 1 {
		first, isKnown := seen[x]
		if isKnown {
			begin, length = first, n-first
			break search
		}
		seen[x] = n
		x = stepOf(s, x, 0).behind
	}
	return begin, length, common.When(length == 0, api.ErrLimit)
}

// weight returns the sum of the absolute values of taps.
func weight(taps ...int) int {
	sum := 0
	for _, x := range taps {
		sum += common.Absolute(x)
	}
	return sum
}

// slack returns the unit of a section less the absolute values of its taps of the output.
func slack(s Section) int {
	return unit(s) - weight(s.A1, s.A2)
}

// Contractive reports whether the taps of the output are together below the unit.
func Contractive(s Section) (bool, api.Errno) {
	if e := CheckSection(s); e != api.OK {
		return false, e
	}
	return slack(s) > 0, api.OK
}

// Stable reports whether the section without rounding is stable.
func Stable(s Section) (bool, api.Errno) {
	if e := CheckSection(s); e != api.OK {
		return false, e
	}
	return common.Absolute(s.A2) < unit(s) && common.Absolute(s.A1) < unit(s)+s.A2, api.OK
}

// Bound returns a number that no output passes.
func Bound(s Section, input int) (int, api.Errno) {
	if e := common.First(CheckSection(s), common.CheckRange(input, 0, MaxValue)); e != api.OK {
		return 0, e
	}
	rest := slack(s)
	if rest <= 0 {
		return 0, api.ErrUnstable
	}
	// What is added before the division rounds it up.
	return (input*weight(s.B0, s.B1, s.B2) + rest - 1) / rest, api.OK
}
