package crossover_test

import (
	"iter"
	"math"
	"math/big"
	"testing"

	"woofer/api"
	"woofer/crossover"
	"woofer/network"
)

// P4.2: CheckCorridor.
func TestCheckCorridor(t *testing.T) {
	for _, c := range [][]crossover.Band{
		quiet(), wide(1), wide(8), wide(1, 8), wide(1, 2, 3, 4, 5, 6, 7, 8),
		{band(1, ratio(0, 1), ratio(0, 1))},
		{band(1, ratio(1000, 1), ratio(1000, 1)), band(2, ratio(1, 1000), ratio(1, 1000))},
		{band(3, ratio(998, 999), ratio(999, 1000))},
		{band(3, ratio(1, 1000), ratio(1, 999)), band(4, ratio(999, 1000), ratio(1000, 999))},
	} {
		same(t, "CheckCorridor", crossover.CheckCorridor(c), api.OK)
	}
	for _, x := range wrongCorridors() {
		same(t, "CheckCorridor", crossover.CheckCorridor(x.c), x.e)
	}
}

// P4.2: Extremes and Corners of the chapter's example, and of others.
func TestExtremes(t *testing.T) {
	one := ratio(1, 1)
	for _, x := range []struct {
		l       []crossover.Part
		choice  []int
		w       int
		levels  [2]api.Ratio
		corners api.Ratio
	}{
		{exampleK(), []int{0, 2}, 1, [2]api.Ratio{ratio(1, 17), one}, ratio(1, 17)},
		{exampleK(), []int{0, 1}, 1, [2]api.Ratio{ratio(1, 5), ratio(1, 5)}, ratio(1, 5)},
		{exampleK(), []int{2, 0}, 1, [2]api.Ratio{one, one}, one},
		{exampleK(), nil, 8, [2]api.Ratio{one, one}, one},
		{nil, nil, 1, [2]api.Ratio{one, one}, one},
		{exampleK(), []int{0, 0, 2}, 2, [2]api.Ratio{ratio(1, 257), one}, ratio(1, 257)},
		// The choice is not in stock.
		{exampleK(), []int{0, 2, 2}, 1, [2]api.Ratio{ratio(1, 65), one}, ratio(1, 65)},
		// A is 1 - 2, 1 - 3 and 1 - 4.
		{list(part("a", series(0, 1), 0, 0), part("b", shunt(0, 3), 0, 1)), []int{0, 1}, 1, [2]api.Ratio{ratio(1, 9), one}, ratio(1, 9)},
		// A capacitor in series, into a resistor: i / (1 + i), 2i / (1 + 2i) and 3i / (1 + 3i).
		{list(part("a", block(0, 2), 0, 1), part("b", shunt(1, 0), 0, 0)), []int{0, 1}, 1, [2]api.Ratio{ratio(1, 2), ratio(9, 10)}, ratio(1, 2)},
		// 82/153, 85/160 and 90/169: the least level is none of a corner.
		{list(part("a", series(2, 1), 0, 0), part("b", trap(2, 3), 1, 0)), []int{0, 1}, 3, [2]api.Ratio{ratio(17, 32), ratio(82, 153)}, ratio(90, 169)},
	} {
		want(t, "Extremes", x.levels)(crossover.Extremes(x.l, x.choice, x.w))
		want(t, "Corners", x.corners)(crossover.Corners(x.l, x.choice, x.w))
	}
}

// resonant returns a coil, and a capacitor with some slack; at the frequency 1 there is a pole without it.
func resonant() []crossover.Part {
	return list(part("coil", series(0, 1), 0, 0), part("capacitor", shunt(0, 1), 0, 1), part("greater", shunt(0, 2), 0, 1))
}

// P4.2: poles of ladders, and of corner ladders.
func TestPoles(t *testing.T) {
	fails[[2]api.Ratio](t, "Extremes", api.ErrPole)(crossover.Extremes(resonant(), []int{0, 1}, 1))
	want(t, "Corners", ratio(1, 1))(crossover.Corners(resonant(), []int{0, 1}, 1))
	fails[[2]api.Ratio](t, "Extremes", api.ErrPole)(crossover.Extremes(resonant(), []int{0, 2}, 1))
	fails[api.Ratio](t, "Corners", api.ErrPole)(crossover.Corners(resonant(), []int{0, 2}, 1))
	want(t, "Extremes at 2", [2]api.Ratio{ratio(1, 49), ratio(1, 1)})(crossover.Extremes(resonant(), []int{0, 1}, 2))
	pole := crossover.Fault{Band: 0, Ladder: row(series(0, 1), shunt(0, 1))}
	want(t, "Fails", pole)(crossover.Fails(resonant(), []int{0, 1}, wide(1, 2)))
	pole.Band = 1
	every := []crossover.Band{band(1, ratio(0, 1), ratio(1, 1))}
	same(t, "CheckFault of a pole", crossover.CheckFault(resonant(), []int{0, 2}, every, crossover.Fault{Ladder: pole.Ladder}), api.OK)
	same(t, "CheckFault of another band", crossover.CheckFault(resonant(), []int{0, 1}, wide(1, 2), pole), api.ErrProof)
	fails[crossover.Fault](t, "Fails at 2", api.ErrNone)(crossover.Fails(resonant(), []int{0, 1}, wide(2)))
}

// P4.2: Fails of the chapter's example, and of others.
func TestFails(t *testing.T) {
	fault := func(band int, l ...network.Element) crossover.Fault { return crossover.Fault{Band: band, Ladder: l} }
	r, c, one := series(2, 0), shunt(0, 1), ratio(1, 1)
	for _, x := range []struct {
		choice []int
		c      []crossover.Band
		fault  crossover.Fault
	}{
		{[]int{0, 2}, quiet(), fault(0, r, shunt(0, 0))},
		{nil, quiet(), fault(0)},
		{[]int{0}, quiet(), fault(0, r)},
		{[]int{1, 0}, quiet(), fault(0, c, r)},
		{[]int{0, 2}, []crossover.Band{band(1, ratio(1, 5), one)}, fault(0, r, shunt(0, 2))},
		{[]int{0, 2}, []crossover.Band{band(1, ratio(1, 17), one), band(2, ratio(1, 17), one)}, fault(1, r, shunt(0, 2))},
		{[]int{0, 2}, []crossover.Band{band(1, ratio(1, 16), one), band(2, ratio(1, 2), ratio(1, 2))}, fault(0, r, shunt(0, 2))},
		{[]int{0, 1}, []crossover.Band{band(1, ratio(0, 1), ratio(199, 996))}, fault(0, r, c)},
		{[]int{0, 1}, []crossover.Band{band(1, ratio(200, 999), one)}, fault(0, r, c)},
		// The choice is not in stock.
		{[]int{2, 0, 2}, quiet(), fault(0, shunt(0, 0), r, shunt(0, 0))},
	} {
		want(t, "Fails", x.fault)(crossover.Fails(exampleK(), x.choice, x.c))
		same(t, "CheckFault", crossover.CheckFault(exampleK(), x.choice, x.c, x.fault), api.OK)
	}
	for _, x := range []struct {
		choice []int
		c      []crossover.Band
	}{
		{[]int{0, 1}, quiet()},
		{[]int{0, 2}, []crossover.Band{band(1, ratio(1, 17), one), band(2, ratio(1, 65), one)}},
		{[]int{0, 1}, []crossover.Band{band(1, ratio(1, 5), ratio(1, 5))}},
		{nil, wide(1, 2, 3, 4, 5, 6, 7, 8)},
		{nil, []crossover.Band{band(4, one, one)}},
	} {
		fails[crossover.Fault](t, "Fails", api.ErrNone)(crossover.Fails(exampleK(), x.choice, x.c))
	}
}

// P4.2: the errors of CheckFault, in their order.
func TestCheckFault(t *testing.T) {
	far := network.Element{Kind: "shunt", A: math.MinInt, B: math.MaxInt}
	for _, x := range []struct {
		band   int
		ladder []network.Element
		e      api.Errno
	}{
		{0, row(series(2, 0), shunt(0, 0)), api.OK},
		{0, row(series(2, 0), shunt(0, 1)), api.ErrProof},
		{0, row(series(2, 0), shunt(0, 2)), api.ErrProof},
		{-1, row(series(2, 0), shunt(0, 0)), api.ErrUnknown},
		{1, row(series(2, 0), shunt(0, 0)), api.ErrUnknown},
		{math.MinInt, nil, api.ErrUnknown},
		{math.MaxInt, nil, api.ErrUnknown},
		{0, nil, api.ErrShape},
		{0, row(series(2, 0)), api.ErrShape},
		{0, row(far, far, far), api.ErrShape},
		{0, make([]network.Element, 1000), api.ErrShape},
		{0, row(series(2, 0), shunt(0, 3)), api.ErrForm},
		{0, row(series(2, 0), shunt(1, 0)), api.ErrForm},
		{0, row(series(2, 0), series(0, 0)), api.ErrForm},
		{0, row(series(2, 1), shunt(0, 0)), api.ErrForm},
		{0, row(shunt(0, 0), series(2, 0)), api.ErrForm},
		{0, row(far, far), api.ErrForm},
		{0, make([]network.Element, 2), api.ErrForm},
	} {
		f := crossover.Fault{Band: x.band, Ladder: x.ladder}
		same(t, "CheckFault", crossover.CheckFault(exampleK(), []int{0, 2}, quiet(), f), x.e)
	}
	same(t, "CheckFault without parts", crossover.CheckFault(nil, nil, quiet(), crossover.Fault{}), api.OK)
	same(t, "CheckFault without parts", crossover.CheckFault(nil, nil, wide(1), crossover.Fault{}), api.ErrProof)
}

// P4.2: the errors of arguments, from left to right.
func TestWrongCorridors(t *testing.T) {
	shapeless := crossover.Fault{Band: -1, Ladder: make([]network.Element, 9)}
	wrong := func(l []crossover.Part, choice []int, c []crossover.Band, e api.Errno) {
		t.Helper()
		fails[crossover.Fault](t, "Fails", e)(crossover.Fails(l, choice, c))
		same(t, "CheckFault", crossover.CheckFault(l, choice, c, shapeless), e)
	}
	wrongLevels := func(l []crossover.Part, choice []int, w int, e api.Errno) {
		t.Helper()
		fails[[2]api.Ratio](t, "Extremes", e)(crossover.Extremes(l, choice, w))
		fails[api.Ratio](t, "Corners", e)(crossover.Corners(l, choice, w))
	}
	for _, x := range wrongCatalogues() {
		wrong(x.l, []int{-1, -1, -1, -1}, nil, x.e)
		wrongLevels(x.l, []int{-1}, 0, x.e)
	}
	for _, x := range wrongChoices() {
		wrong(exampleK(), x.choice, nil, x.e)
		wrong(exampleK(), x.choice, quiet(), x.e)
		wrongLevels(exampleK(), x.choice, 0, x.e)
		wrongLevels(exampleK(), x.choice, 1, x.e)
	}
	for _, x := range wrongCorridors() {
		wrong(exampleK(), []int{0, 2}, x.c, x.e)
	}
	for _, w := range wrongFrequencies {
		wrongLevels(exampleK(), []int{0, 2}, w, api.ErrRange)
		wrongLevels(resonant(), []int{0, 2}, w, api.ErrRange)
	}
}

// isCorner reports whether each element of a ladder has the least or the greatest numbers of its part.
func isCorner(l []crossover.Part, choice []int, ladder []network.Element) bool {
	for at, i := range choice {
		p, x := l[i], ladder[at]
		isA := x.A == p.Element.A-p.SlackA || x.A == p.Element.A+p.SlackA
		isB := x.B == p.Element.B-p.SlackB || x.B == p.Element.B+p.SlackB
		if !isA || !isB {
			return false
		}
	}
	return true
}

// limitsOf returns the least and the greatest level of ladders, and nil if one of them has a pole.
func limitsOf(ladders [][]network.Element, w int) []*big.Rat {
	var limits []*big.Rat
	for _, ladder := range ladders {
		x := levelOf(ladder, w)
		if x == nil {
			return nil
		}
		if limits == nil {
			limits = []*big.Rat{x, x}
		}
		if x.Cmp(limits[0]) < 0 {
			limits[0] = x
		}
		if x.Cmp(limits[1]) > 0 {
			limits[1] = x
		}
	}
	return limits
}

// lossless returns parts without resistors: many of their ladders have poles.
func lossless() []crossover.Part {
	return list(part("a", series(0, 1), 0, 1), part("b", shunt(0, 1), 0, 1), part("c", block(0, 2), 0, 1), part("d", trap(0, 1), 0, 0))
}

// someChoices visits catalogues with choices of their parts: drawn ones, and all of parts without resistors.
func someChoices(next func(least, most int) int) iter.Seq2[[]crossover.Part, []int] {
	return func(yield func([]crossover.Part, []int) bool) {
		for range 300 {
			l := drawnCatalogue(next, 4)
			if !yield(l, drawnChoice(next, l)) {
				return
			}
		}
		for _, choice := range choicesOf(lossless(), 3) {
			if !yield(lossless(), choice) {
				return
			}
		}
	}
}

// drawnChoice returns a choice that is drawn.
func drawnChoice(next func(least, most int) int, l []crossover.Part) []int {
	var choice []int
	for range next(0, 3) {
		if len(l) > 0 {
			choice = append(choice, next(0, len(l)-1))
		}
	}
	return choice
}

// P4.2: Extremes and Corners against all ladders, as rational numbers.
func TestExtremesOfLadders(t *testing.T) {
	poles := 0
	for l, choice := range someChoices(random(23)) {
		all := laddersOf(l, choice)
		var corners [][]network.Element
		for _, ladder := range all {
			if isCorner(l, choice, ladder) {
				corners = append(corners, ladder)
			}
		}
		for w := 1; w <= network.MaxW; w++ {
			levels, e := crossover.Extremes(l, choice, w)
			if limits := limitsOf(all, w); limits == nil {
				fails[[2]api.Ratio](t, "Extremes", api.ErrPole)(levels, e)
				poles++
			} else {
				same(t, "Extremes", e, api.OK)
				same(t, "Extremes", levels, "["+text(limits[0])+" "+text(limits[1])+"]")
			}
			least, e := crossover.Corners(l, choice, w)
			if limits := limitsOf(corners, w); limits == nil {
				fails[api.Ratio](t, "Corners", api.ErrPole)(least, e)
			} else {
				same(t, "Corners", e, api.OK)
				same(t, "Corners", least, text(limits[0]))
			}
		}
	}
	same(t, "enough poles", poles > 20, true)
}

// P4.2: Fails and CheckFault against all ladders.
func TestFaultsOfLadders(t *testing.T) {
	next := random(29)
	kept := 0
	for l, choice := range someChoices(next) {
		c := drawnCorridor(next)
		faults := faultsOf(l, choice, c)
		f, e := crossover.Fails(l, choice, c)
		if len(faults) == 0 {
			fails[crossover.Fault](t, "Fails", api.ErrNone)(f, e)
			kept++
		} else {
			want(t, "Fails", faults[0])(f, e)
		}
		at := 0
		for i := range c {
			for _, ladder := range laddersOf(l, choice) {
				f := crossover.Fault{Band: i, Ladder: ladder}
				if keeps(ladder, c[i]) {
					same(t, "CheckFault", crossover.CheckFault(l, choice, c, f), api.ErrProof)
					continue
				}
				same(t, "CheckFault", crossover.CheckFault(l, choice, c, f), api.OK)
				at++
			}
		}
		same(t, "faults", at, len(faults))
	}
	same(t, "enough choices that keep", kept > 50, true)
}
