package network

import (
	"slices"

	"woofer/api"
	"woofer/common"
)

// Reverse returns a ladder read from its end.
func Reverse(l []Element) ([]Element, api.Errno) {
	if e := CheckLadder(l); e != api.OK {
		return nil, e
	}
	changed := slices.Clone(l)
	slices.Reverse(changed)
	return changed, api.OK
}

// Dual returns the dual ladder.
func Dual(l []Element) ([]Element, api.Errno) {
	if e := CheckLadder(l); e != api.OK {
		return nil, e
	}
	changed := slices.Clone(l)
	for i, x := range l {
		changed[i].Kind = dualOf(x.Kind)
	}
	return changed, api.OK
}

// Join returns two ladders in a row.
func Join(a, b []Element) ([]Element, api.Errno) {
	e := common.First(
		CheckLadder(a),
		CheckLadder(b),
		common.When(len(a)+len(b) > MaxElements, api.ErrMany),
	)
	if e != api.OK {
		return nil, e
	}
	return slices.Concat(a, b), api.OK
}
