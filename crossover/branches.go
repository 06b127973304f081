package crossover

import (
	"woofer/api"
	"woofer/common"
	"woofer/network"
)

// checkBranch returns the first error of a branch, or OK.
func checkBranch(l []network.Element) api.Errno {
	return common.First(network.CheckLadder(l), common.When(len(l) > MaxBranch, api.ErrMany))
}

// Sum returns the sum of two branches.
func Sum(a, b []network.Element, w int, inverted bool) (network.Pair, api.Errno) {
	if e := common.First(checkBranch(a), checkBranch(b)); e != api.OK {
		return network.Pair{}, e
	}
	x, eX := network.Transfer(a, w)
	y, eY := network.Transfer(b, w)
	if e := common.First(eX, eY); e != api.OK {
		return network.Pair{}, e
	}
	add := common.Plus
	if inverted {
		add = common.Minus
	}
	num := add(common.Times(x.Num, y.Den), common.Times(y.Num, x.Den))
	return network.Pair{Num: num, Den: common.Times(x.Den, y.Den)}, api.OK
}

// SumLevel returns the level of the sum of two branches.
func SumLevel(a, b []network.Element, w int, inverted bool) (api.Ratio, api.Errno) {
	p, e := Sum(a, b, w, inverted)
	if e != api.OK {
		return api.Ratio{}, e
	}
	return common.Lowest(api.Ratio{Num: common.Square(p.Num), Den: common.Square(p.Den)}), api.OK
}

// Crossing returns the first frequency at which a branch is no louder than another one.
func Crossing(a, b []network.Element, from, to int) (int, api.Errno) {
	if e := common.First(checkBranch(a), checkBranch(b)); e != api.OK {
		return 0, e
	}
	x, eX := network.Table(a, from, to)
	y, eY := network.Table(b, from, to)
	if e := common.First(eX, eY); e != api.OK {
		return 0, e
	}
	for i := range x {
		if common.Compare(x[i], y[i]) <= 0 {
			return from + i, api.OK
		}
	}
	return 0, api.ErrNone
}
