package line

import (
	"slices"

	"woofer/api"
	"woofer/common"
)

// CheckMask returns the first error of a mask, or OK.
func CheckMask(m Mask) api.Errno {
	e := common.First(
		checkTests(len(m.Least)),
		common.When(len(m.Most) != len(m.Least), api.ErrShape),
	)
	if e != api.OK {
		return e
	}
	for test := range len(m.Least) {
		e := common.First(
			checkValues(m.Least[test], m.Most[test]),
			common.When(m.Least[test] > m.Most[test], api.ErrOrder),
		)
		if e != api.OK {
			return e
		}
	}
	return api.OK
}

// checkShape returns ErrShape if units do not have as many values as a mask has tests, else OK.
func checkShape(m Mask, l ...Unit) api.Errno {
	return common.When(slices.ContainsFunc(l, func(u Unit) bool {
		return len(u.Values) != len(m.Least)
	}), api.ErrShape)
}

// narrowed returns a mask that is narrowed by a number, or widened if it is below 0, but not beyond the range of values.
func narrowed(m Mask, by int) Mask {
	return Mask{
		Least: common.Mapped(m.Least, func(n int) int { return max(n+by, -MaxValue) }),
		Most:  common.Mapped(m.Most, func(n int) int { return min(n-by, MaxValue) }),
	}
}

// Learn returns the mask that is learned from golden units.
func Learn(golden []Unit, margin int) (Mask, api.Errno) {
	e := common.First(
		CheckUnits(golden),
		common.CheckRange(margin, 0, MaxValue),
		common.When(len(golden) == 0, api.ErrEmpty),
	)
	if e != api.OK {
		return Mask{}, e
	}
	first := golden[0].Values
	m := Mask{Least: slices.Clone(first), Most: slices.Clone(first)}
	for _, u := range golden {
		for test, value := range u.Values {
			m.Least[test] = min(m.Least[test], value)
			m.Most[test] = max(m.Most[test], value)
		}
	}
	return narrowed(m, -margin), api.OK
}

// Narrow returns a mask that is narrowed by a guard.
func Narrow(m Mask, guard int) (Mask, api.Errno) {
	if e := common.First(CheckMask(m), common.CheckRange(guard, 0, MaxValue)); e != api.OK {
		return Mask{}, e
	}
	narrow := narrowed(m, guard)
	// A value beyond its range is beyond the other one, too.
	if CheckMask(narrow) != api.OK {
		return Mask{}, api.ErrInfeasible
	}
	return narrow, api.OK
}

// failuresOf returns the tests that a unit fails, ascending.
func failuresOf(m Mask, u Unit) []int {
	var failures []int
	for test := range len(m.Least) {
		if !common.Within(u.Values[test], m.Least[test], m.Most[test]) {
			failures = append(failures, test)
		}
	}
	return failures
}

// passes reports whether a unit fails no test.
func passes(m Mask, u Unit) bool {
	return len(failuresOf(m, u)) == 0
}

// checkTested returns the first error of a mask and a unit, or OK.
func checkTested(m Mask, u Unit) api.Errno {
	return common.First(CheckMask(m), checkUnit(u), checkShape(m, u))
}

// Failures returns the tests that a unit fails.
func Failures(m Mask, u Unit) ([]int, api.Errno) {
	if e := checkTested(m, u); e != api.OK {
		return nil, e
	}
	return failuresOf(m, u), api.OK
}

// classOf returns the class of a value from the least to the greatest one.
func classOf(value, least, most, classes int) int {
	if least == most {
		return 0
	}
	deviation := common.Absolute(2*value - least - most)
	return min(classes*deviation/(most-least), classes-1)
}

// Grade returns the grade of a unit that passes.
func Grade(m Mask, u Unit, classes int) (int, api.Errno) {
	if e := common.First(checkTested(m, u), common.CheckRange(classes, 1, MaxClasses)); e != api.OK {
		return 0, e
	}
	if !passes(m, u) {
		return 0, api.ErrFail
	}
	grade := 0
	for test, value := range u.Values {
		grade = max(grade, classOf(value, m.Least[test], m.Most[test], classes))
	}
	return grade, api.OK
}

// Yield returns the share of units that pass.
func Yield(m Mask, l []Unit) (api.Ratio, api.Errno) {
	e := common.First(
		CheckMask(m),
		CheckUnits(l),
		checkShape(m, l...),
		common.When(len(l) == 0, api.ErrEmpty),
	)
	if e != api.OK {
		return api.Ratio{}, e
	}
	passed := common.Filtered(l, func(u Unit) bool { return passes(m, u) })
	return common.Lowest(api.Ratio{Num: len(passed), Den: len(l)}), api.OK
}
