package driver

import (
	"slices"

	"woofer/api"
	"woofer/common"
)

// CheckCurve returns the first error of a curve, or OK.
func CheckCurve(c Curve) api.Errno {
	n := len(c.Force)
	return common.First(
		common.When(n%2 == 0 || !common.Within(n, 3, MaxCurve) || n != len(c.Stiffness), api.ErrShape),
		common.When(slices.ContainsFunc(c.Force, isBeyond) || slices.ContainsFunc(c.Stiffness, isBeyond), api.ErrRange),
	)
}

// isBeyond reports whether an integer is none of a curve.
func isBeyond(x int) bool {
	return !common.Within(x, 1, api.MaxNumber)
}

// Linear returns the greatest displacement within which a curve is linear.
func Linear(c Curve, force, stiffness int) (int, api.Errno) {
	e := common.First(
		CheckCurve(c),
		common.CheckRange(force, 1, 100),
		common.CheckRange(stiffness, 100, MaxLimit),
	)
	if e != api.OK {
		return 0, e
	}
	rest := len(c.Force) / 2 // the index of the displacement 0
	isLinear := func(at int) bool {
		return 100*c.Force[at] >= force*c.Force[rest] && 100*c.Stiffness[at] <= stiffness*c.Stiffness[rest]
	}
	linear := 0
	for d := range rest + 1 {
		if !isLinear(rest-d) || !isLinear(rest+d) {
			break
		}
		linear = d
	}
	return linear, api.OK
}
