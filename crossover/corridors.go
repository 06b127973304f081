package crossover

import (
	"iter"
	"slices"

	"woofer/api"
	"woofer/common"
	"woofer/network"
	"woofer/signal"
)

// CheckCorridor returns the first error of a corridor, or OK.
func CheckCorridor(c []Band) api.Errno {
	e := common.First(
		common.When(len(c) == 0, api.ErrEmpty),
		common.When(len(c) > MaxBands, api.ErrMany),
	)
	if e != api.OK {
		return e
	}
	before := 0 // less than all frequencies
	for _, b := range c {
		if e := checkBand(b, before); e != api.OK {
			return e
		}
		before = b.W
	}
	return api.OK
}

// checkBand returns the first error of a band behind another one with the frequency before, or OK.
func checkBand(b Band, before int) api.Errno {
	return common.First(
		checkFrequency(b.W),
		checkLevel(b.Least),
		checkLevel(b.Most),
		common.When(common.Compare(b.Least, b.Most) > 0 || b.W <= before, api.ErrOrder),
	)
}

// checkLevel returns the first error of a level of a corridor, or OK.
func checkLevel(x api.Ratio) api.Errno {
	return common.First(
		common.CheckRange(x.Num, 0, MaxLevel),
		common.CheckRange(x.Den, 1, MaxLevel),
		signal.CheckRatio(x),
	)
}

// levels are the least and the greatest one of some levels; the zero value are those of none.
type levels [2]api.Ratio

// with returns the levels of one level more.
func (l levels) with(x api.Ratio) levels {
	if l == (levels{}) {
		return levels{x, x}
	}
	if common.Compare(x, l[0]) < 0 {
		l[0] = x
	}
	if common.Compare(x, l[1]) > 0 {
		l[1] = x
	}
	return l
}

// levelsOf returns the levels of ladders at a frequency, or ErrPole if one of them has a pole.
func levelsOf(list iter.Seq[[]network.Element], w int) (levels, api.Errno) {
	var all levels
	for ladder := range list {
		x, e := network.Level(ladder, w)
		if e != api.OK {
			return levels{}, e
		}
		all = all.with(x)
	}
	return all, api.OK
}

// Extremes returns the least and the greatest level of a choice.
func Extremes(l []Part, choice []int, w int) ([2]api.Ratio, api.Errno) {
	if e := common.First(checkChosen(l, choice), checkFrequency(w)); e != api.OK {
		return [2]api.Ratio{}, e
	}
	return levelsOf(ladders(l, choice, valuesOf), w)
}

// Corners returns the least level of the corner ladders of a choice.
func Corners(l []Part, choice []int, w int) (api.Ratio, api.Errno) {
	if e := common.First(checkChosen(l, choice), checkFrequency(w)); e != api.OK {
		return api.Ratio{}, e
	}
	corners, e := levelsOf(ladders(l, choice, cornersOf), w)
	return corners[0], e
}

// keeps reports whether a ladder keeps a band.
func keeps(ladder []network.Element, b Band) bool {
	x, e := network.Level(ladder, b.W)
	permitted := levels{b.Least, b.Most}
	return e == api.OK && permitted.with(x) == permitted
}

// firstFault returns the first fault of a choice, and whether there is one.
func firstFault(l []Part, choice []int, c []Band) (Fault, bool) {
	var first Fault
	found := false
	all := ladders(l, choice, valuesOf)
search:
	for i, b := range c {
		for ladder := range all {
			if !keeps(ladder, b) {
				first, found = Fault{Band: i, Ladder: ladder}, true
				break search
			}
		}
	}
	return first, found
}

// Fails returns the first fault of a choice.
func Fails(l []Part, choice []int, c []Band) (Fault, api.Errno) {
	if e := common.First(checkChosen(l, choice), CheckCorridor(c)); e != api.OK {
		return Fault{}, e
	}
	first, found := firstFault(l, choice, c)
	return first, common.When(!found, api.ErrNone)
}

// CheckFault returns OK for a fault of a choice.
func CheckFault(l []Part, choice []int, c []Band, f Fault) api.Errno {
	if e := common.First(checkChosen(l, choice), CheckCorridor(c)); e != api.OK {
		return e
	}
	return checkFault(l, choice, c, f)
}

// checkFault returns the first error of a fault of a choice that is one, or OK.
func checkFault(l []Part, choice []int, c []Band, f Fault) api.Errno {
	if !common.Within(f.Band, 0, len(c)-1) {
		return api.ErrUnknown
	}
	if len(f.Ladder) != len(choice) {
		return api.ErrShape
	}
	for i, x := range f.Ladder {
		if !slices.Contains(valuesOf(l[choice[i]]), x) {
			return api.ErrForm
		}
	}
	return common.When(keeps(f.Ladder, c[f.Band]), api.ErrProof)
}
