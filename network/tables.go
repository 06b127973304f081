package network

import (
	"woofer/api"
	"woofer/common"
	"woofer/signal"
)

// Table returns the levels of a ladder at some frequencies.
func Table(l []Element, from, to int) ([]api.Ratio, api.Errno) {
	if e := common.First(CheckLadder(l), checkSpan(from, to)); e != api.OK {
		return nil, e
	}
	var levels []api.Ratio
	for i := range to - from + 1 {
		x, e := Level(l, from+i)
		if e != api.OK {
			return nil, e
		}
		levels = append(levels, x)
	}
	return levels, api.OK
}

// Peak returns the frequency with the greatest level.
func Peak(l []Element, from, to int) (int, api.Errno) {
	levels, e := Table(l, from, to)
	if e != api.OK {
		return 0, e
	}
	peak := 0
	for i, x := range levels {
		if common.Compare(x, levels[peak]) > 0 {
			peak = i
		}
	}
	return from + peak, api.OK
}

// Below returns the first frequency with a level below another one.
func Below(l []Element, from, to int, level api.Ratio) (int, api.Errno) {
	e := common.First(CheckLadder(l), checkSpan(from, to), checkLevel(level))
	if e != api.OK {
		return 0, e
	}
	// A pole behind the frequency that is searched for is an error, too.
	levels, e := Table(l, from, to)
	if e != api.OK {
		return 0, e
	}
	found := 0
search:
	for i, x := range levels {
		switch common.Compare(x, level) {
		case -1:
			found = from + i
			break search
		}
	}
	return found, common.When(found == 0, api.ErrNone)
}

// checkLevel returns the first error of a level, or OK.
func checkLevel(x api.Ratio) api.Errno {
	return common.First(signal.CheckRatio(x), common.When(x.Num < 0, api.ErrRange))
}
