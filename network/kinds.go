package network

import (
	"slices"

	"woofer/api"
	"woofer/common"
)

// The kinds of elements.
const (
	block  = "block"
	series = "series"
	shunt  = "shunt"
	trap   = "trap"
)

// Kinds returns the kinds of elements.
func Kinds() []string {
	return []string{block, series, shunt, trap}
}

// CheckLadder returns the first error of a ladder, or OK.
func CheckLadder(l []Element) api.Errno {
	if len(l) > MaxElements {
		return api.ErrMany
	}
	return common.First(common.Mapped(l, checkElement)...)
}

// checkElement returns the first error of an element, or OK.
func checkElement(x Element) api.Errno {
	return common.First(
		common.When(!slices.Contains(Kinds(), x.Kind), api.ErrKind),
		common.CheckRange(x.A, 0, MaxPart),
		common.CheckRange(x.B, 0, MaxPart),
		common.When(divides(x.Kind) && x.A == 0 && x.B == 0, api.ErrZero),
	)
}

// divides reports whether the values of a kind are factors of the divisor.
func divides(kind string) bool {
	return kind == block || kind == trap
}

// dualOf returns the kind of the elements of a dual ladder.
func dualOf(kind string) string {
	switch kind {
	case series:
		return shunt
	case shunt:
		return series
	case block:
		return trap
	}
	return block
}
