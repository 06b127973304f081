package network_test

import (
	"math"
	"math/big"
	"testing"

	"woofer/api"
	"woofer/network"
)

// P2.5: Table and Peak.
func TestTable(t *testing.T) {
	for _, x := range []struct {
		l        []network.Element
		from, to int
		levels   []api.Ratio
		peak     int
	}{
		{filter(), 1, 3, []api.Ratio{ratio(1, 4), ratio(1, 25), ratio(1, 100)}, 1},
		{filter(), 2, 2, []api.Ratio{ratio(1, 25)}, 2},
		{nil, 7, 8, []api.Ratio{ratio(1, 1), ratio(1, 1)}, 7},
		{nil, 8, 8, []api.Ratio{ratio(1, 1)}, 8},
		{row(series(0, 1), shunt(0, 1)), 2, 4, []api.Ratio{ratio(1, 9), ratio(1, 64), ratio(1, 225)}, 2},
		{row(block(0, 1), shunt(1, 0)), 1, 4, []api.Ratio{ratio(1, 2), ratio(4, 5), ratio(9, 10), ratio(16, 17)}, 4},
	} {
		levels, e := network.Table(x.l, x.from, x.to)
		equal(t, "Table", e, api.OK)
		equalList(t, "Table", levels, x.levels)
		equal(t, "Peak", ok[int](t)(network.Peak(x.l, x.from, x.to)), x.peak)
	}
	levels := ok[[]api.Ratio](t)(network.Table(filter(), 1, 8))
	equal(t, "all frequencies", len(levels), 8)
	for i, x := range levels {
		equal(t, "level", x, ok[api.Ratio](t)(network.Level(filter(), i+1)))
	}
}

// P2.5: Below.
func TestBelow(t *testing.T) {
	for _, x := range []struct {
		l        []network.Element
		from, to int
		level    api.Ratio
		w        int
		e        api.Errno
	}{
		{filter(), 1, 3, ratio(1, 10), 2, api.OK},
		{filter(), 1, 3, ratio(1, 1), 1, api.OK},
		{filter(), 2, 3, ratio(1, 1), 2, api.OK},
		{filter(), 1, 3, ratio(1, 4), 2, api.OK},
		{filter(), 1, 3, ratio(250000001, 999999999), 1, api.OK},
		{filter(), 1, 3, ratio(1, 25), 3, api.OK},
		{filter(), 1, 3, ratio(1, 100), 0, api.ErrNone},
		{filter(), 1, 3, ratio(0, 1), 0, api.ErrNone},
		{filter(), 1, 8, ratio(1, 999999999), 0, api.ErrNone},
		{filter(), 1, 8, ratio(999999999, 1), 1, api.OK},
		{nil, 1, 8, ratio(1, 1), 0, api.ErrNone},
		{nil, 3, 8, ratio(999999999, 999999998), 3, api.OK},
		{nil, 1, 8, ratio(999999998, 999999999), 0, api.ErrNone},
		{row(block(0, 1), shunt(1, 0)), 2, 4, ratio(4, 5), 0, api.ErrNone},
	} {
		w, e := network.Below(x.l, x.from, x.to, x.level)
		equal(t, "Below", e, x.e)
		equal(t, "Below", w, x.w)
	}
}

// P2.5: a pole at any of the frequencies is an error, also behind the one that is searched for.
func TestTablePoles(t *testing.T) {
	atOne := row(series(0, 1), shunt(0, 1))
	atTwo := row(series(0, 1), trap(0, 1), trap(0, 1), trap(0, 1), shunt(0, 1))
	for _, x := range []struct {
		l        []network.Element
		from, to int
	}{{atOne, 1, 1}, {atOne, 1, 8}, {atTwo, 2, 2}, {atTwo, 1, 2}, {atTwo, 2, 3}, {atTwo, 1, 8}} {
		levels, e := network.Table(x.l, x.from, x.to)
		failsList(t, "Table", levels, e, api.ErrPole)
		w, e := network.Peak(x.l, x.from, x.to)
		fails(t, "Peak", w, e, api.ErrPole)
		w, e = network.Below(x.l, x.from, x.to, ratio(999999999, 1))
		fails(t, "Below", w, e, api.ErrPole)
		w, e = network.Below(x.l, x.from, x.to, ratio(0, 1))
		fails(t, "Below", w, e, api.ErrPole)
	}
	levels := ok[[]api.Ratio](t)
	equalList(t, "before the pole", levels(network.Table(atTwo, 1, 1)), []api.Ratio{ratio(1, 9)})
	equalList(t, "behind the pole", levels(network.Table(atTwo, 3, 4)), []api.Ratio{ratio(1, 25), ratio(1, 144)})
}

// P2.5: Peak and Below against all levels, as rational numbers.
func TestTablesOfLadders(t *testing.T) {
	limits := []api.Ratio{ratio(1, 1), ratio(1, 2), ratio(999999998, 999999999), ratio(1, 999999999), ratio(999999999, 1000), ratio(1, 1000)}
	for _, l := range ladders() {
		for _, span := range [][2]int{{1, 8}, {2, 5}, {8, 8}} {
			levels, e := network.Table(l, span[0], span[1])
			if e != api.OK {
				continue
			}
			equal(t, "Table", len(levels), span[1]-span[0]+1)
			equal(t, "Peak", ok[int](t)(network.Peak(l, span[0], span[1])), span[0]+greatest(levels))
			for _, limit := range append(limits, levels...) {
				if limit.Num > api.MaxNumber || limit.Den > api.MaxNumber {
					continue
				}
				w, e := network.Below(l, span[0], span[1], limit)
				at := firstBelow(levels, rational(limit))
				if at < 0 {
					fails(t, "Below", w, e, api.ErrNone)
				} else {
					equal(t, "Below", e, api.OK)
					equal(t, "Below", w, span[0]+at)
				}
			}
		}
	}
}

func greatest(levels []api.Ratio) int {
	at := 0
	for i, x := range levels {
		if rational(x).Cmp(rational(levels[at])) > 0 {
			at = i
		}
	}
	return at
}

func firstBelow(levels []api.Ratio, limit *big.Rat) int {
	for i, x := range levels {
		if rational(x).Cmp(limit) < 0 {
			return i
		}
	}
	return -1
}

// P2.5: frequencies that are none; they come before poles and levels.
func TestWrongSpans(t *testing.T) {
	for _, x := range wrongSpans() {
		for _, l := range [][]network.Element{filter(), row(series(0, 1), shunt(0, 1))} {
			levels, e := network.Table(l, x.from, x.to)
			failsList(t, "Table", levels, e, x.e)
			w, e := network.Peak(l, x.from, x.to)
			fails(t, "Peak", w, e, x.e)
			for _, level := range []api.Ratio{ratio(1, 2), ratio(2, 2), ratio(-1, 1)} {
				w, e = network.Below(l, x.from, x.to, level)
				fails(t, "Below", w, e, x.e)
			}
		}
	}
}

// P2.5: levels that are none; they come before poles.
func TestWrongLevels(t *testing.T) {
	for _, x := range []struct {
		level api.Ratio
		e     api.Errno
	}{
		{ratio(1, 0), api.ErrRange},
		{ratio(0, 0), api.ErrRange},
		{ratio(1, -2), api.ErrRange},
		{ratio(1000000000, 1), api.ErrRange},
		{ratio(1, 1000000000), api.ErrRange},
		{ratio(math.MinInt, 1), api.ErrRange},
		{ratio(1, math.MaxInt), api.ErrRange},
		{ratio(2, 4), api.ErrForm},
		{ratio(0, 2), api.ErrForm},
		{ratio(-2, 4), api.ErrForm},
		{ratio(-1, 2), api.ErrRange},
		{ratio(-999999999, 1), api.ErrRange},
	} {
		for _, l := range [][]network.Element{nil, filter(), row(series(0, 1), shunt(0, 1))} {
			w, e := network.Below(l, 1, 8, x.level)
			fails(t, "Below", w, e, x.e)
		}
	}
}
