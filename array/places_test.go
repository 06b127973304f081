package array_test

import (
	"math"
	"slices"
	"testing"

	"woofer/api"
	"woofer/array"
)

// quarterTurn returns sources turned by one quarter.
func quarterTurn(l sources) sources {
	var turned sources
	for _, s := range l {
		turned = append(turned, array.Source{X: -s.Y, Y: s.X, Gain: s.Gain, Phase: s.Phase})
	}
	return turned
}

// P6.3: Turn by all numbers of quarter turns, also below 0 and beyond 3.
func TestTurn(t *testing.T) {
	s := array.Source{X: 3, Y: -100, Gain: -7, Phase: 2}
	to := func(x, y int) sources {
		return list(array.Source{X: x, Y: y, Gain: -7, Phase: 2})
	}
	for _, x := range []struct {
		quarters int
		wanted   sources
	}{
		{0, to(3, -100)}, {1, to(100, 3)}, {2, to(-3, 100)}, {3, to(-100, -3)}, {4, to(3, -100)}, {-1, to(-100, -3)}, {-2, to(-3, 100)}, {-3, to(100, 3)}, {-4, to(3, -100)},
		{999999999, to(-100, -3)}, {-999999999, to(100, 3)}, {999999998, to(-3, 100)},
	} {
		want(t, "Turn", x.wanted)(array.Turn(list(s), x.quarters))
		want(t, "Turn", sources{})(array.Turn(nil, x.quarters))
	}
	for _, l := range someArrays() {
		turned := l
		for quarters := range 9 {
			want(t, "Turn", turned)(array.Turn(l, quarters))
			want(t, "Turn", turned)(array.Turn(l, quarters-12))
			turned = quarterTurn(turned)
		}
	}
	for _, quarters := range []int{1000000000, -1000000000, math.MinInt, math.MaxInt} {
		fails[sources](t, "Turn", api.ErrRange)(array.Turn(exampleA(), quarters))
		fails[sources](t, "Turn", api.ErrRange)(array.Turn(nil, quarters))
		for _, x := range wrongArrays() {
			fails[sources](t, "Turn", x.e)(array.Turn(x.l, quarters))
			fails[sources](t, "Turn", x.e)(array.Turn(x.l, 1))
		}
	}
}

// P6.3: Shift up to the limits of places and beyond them.
func TestShift(t *testing.T) {
	want(t, "Shift", list(at(3, -4), at(4, -4)))(array.Shift(exampleA(), 3, -4))
	want(t, "Shift", exampleA())(array.Shift(exampleA(), 0, 0))
	want(t, "Shift", list(at(99, -100), at(100, -100)))(array.Shift(exampleA(), 99, -100))
	want(t, "Shift", list(at(-100, 100), at(-99, 100)))(array.Shift(exampleA(), -100, 100))
	own := array.Source{X: -100, Y: 100, Gain: -3, Phase: 3}
	want(t, "Shift", list(array.Source{X: 0, Y: 0, Gain: -3, Phase: 3}))(array.Shift(list(own), 100, -100))
	want(t, "Shift", sources{})(array.Shift(nil, 100, -100))
	for _, x := range []struct {
		l    sources
		x, y int
	}{
		{exampleA(), 100, 0}, {list(at(1, 0), at(0, 0)), 100, 0}, {list(at(0, 0), at(0, -1)), 0, -100}, {list(own), -1, 0}, {list(own), 0, 1}, {list(at(50, 50)), 51, 0}, {list(at(50, 50)), 0, 51},
	} {
		fails[sources](t, "Shift", api.ErrRange)(array.Shift(x.l, x.x, x.y))
	}
	for _, n := range wrongPlaces {
		for _, l := range []sources{nil, list(at(-n/200, -n/200)), exampleA()} {
			fails[sources](t, "Shift", api.ErrRange)(array.Shift(l, n, 0))
			fails[sources](t, "Shift", api.ErrRange)(array.Shift(l, 0, n))
		}
	}
	fails[sources](t, "Shift", api.ErrRange)(array.Shift(list(at(-1, 0)), 101, 0))
	fails[sources](t, "Shift", api.ErrRange)(array.Shift(list(at(0, 1)), 0, -101))
	for _, x := range wrongArrays() {
		fails[sources](t, "Shift", x.e)(array.Shift(x.l, 0, 0))
		fails[sources](t, "Shift", x.e)(array.Shift(x.l, 101, 101))
	}
}

// P6.3: Repeat of the chapter's example, and of others.
func TestRepeat(t *testing.T) {
	source := func(x, y, gain, phase int) array.Source {
		return array.Source{X: x, Y: y, Gain: gain, Phase: phase}
	}
	for _, x := range []struct {
		l, by, wanted sources
	}{
		{exampleA(), exampleA(), list(at(0, 0), at(1, 0), at(1, 0), at(2, 0))},
		{nil, nil, nil},
		{nil, exampleA(), nil},
		{exampleA(), nil, nil},
		{nil, make(sources, 16), nil},
		{list(at(10, 0), at(20, 0)), list(at(1, 7), at(2, 8), at(3, 9)), list(at(11, 7), at(12, 8), at(13, 9), at(21, 7), at(22, 8), at(23, 9))},
		{list(source(5, -6, 7, 3)), list(source(1, 2, -3, 2), source(-1, -2, 0, 3)), list(source(6, -4, -21, 1), source(4, -8, 0, 2))},
		{list(source(100, -100, 10, 0)), list(source(0, 0, 10, 0), source(-100, 100, -10, 1)), list(source(100, -100, 100, 0), source(0, 0, -100, 1))},
		{list(source(50, -50, 1, 3)), list(source(50, -50, -100, 3)), list(source(100, -100, -100, 2))},
		{list(at(1, 1), at(2, 2)), make(sources, 8), append(slices.Repeat(list(source(1, 1, 0, 0)), 8), slices.Repeat(list(source(2, 2, 0, 0)), 8)...)},
	} {
		want(t, "Repeat", x.wanted)(array.Repeat(x.l, x.by))
	}
}

// P6.3: the errors of Repeat, in their order.
func TestWrongRepeat(t *testing.T) {
	far, near, loud := at(100, 0), at(0, 0), wave(100, 0)
	far.Gain = 2
	for _, x := range []struct {
		l, by sources
		e     api.Errno
	}{
		{make(sources, 17), nil, api.ErrMany},
		{nil, make(sources, 17), api.ErrMany},
		{make(sources, 9), make(sources, 2), api.ErrMany},
		{make(sources, 2), make(sources, 9), api.ErrMany},
		{make(sources, 16), make(sources, 16), api.ErrMany},
		{slices.Repeat(list(far), 6), slices.Repeat(list(far), 3), api.ErrMany},
		{list(far), list(at(1, 0)), api.ErrRange},
		{list(near, far), list(near, at(1, 0)), api.ErrRange},
		{list(at(0, -50)), list(at(0, -51)), api.ErrRange},
		{list(loud), list(wave(2, 0)), api.ErrRange},
		{list(wave(-11, 0)), list(near, wave(10, 0)), api.ErrRange},
		{list(loud), list(wave(-2, 1)), api.ErrRange},
	} {
		fails[sources](t, "Repeat", x.e)(array.Repeat(x.l, x.by))
	}
	for _, x := range wrongArrays() {
		for _, by := range []sources{nil, exampleA(), make(sources, 16)} {
			fails[sources](t, "Repeat", x.e)(array.Repeat(x.l, by))
			fails[sources](t, "Repeat", x.e)(array.Repeat(by, x.l))
		}
		for _, y := range wrongArrays() {
			fails[sources](t, "Repeat", x.e)(array.Repeat(x.l, y.l))
		}
	}
}

// P6.3: Mirror of the chapter's example, and of others.
func TestMirror(t *testing.T) {
	want(t, "Mirror", list(at(0, 0), at(1, 0), at(4, 0), at(3, 0)))(array.Mirror(exampleA(), 2, false))
	opposite := func(x, y int) array.Source {
		return array.Source{X: x, Y: y, Gain: -1}
	}
	want(t, "Mirror", list(at(0, 0), at(1, 0), opposite(4, 0), opposite(3, 0)))(array.Mirror(exampleA(), 2, true))
	s := array.Source{X: -30, Y: 7, Gain: -5, Phase: 3}
	image := array.Source{X: -10, Y: 7, Gain: -5, Phase: 3}
	want(t, "Mirror", list(s, image))(array.Mirror(list(s), -20, false))
	image.Gain = 5
	want(t, "Mirror", list(s, image))(array.Mirror(list(s), -20, true))
	want(t, "Mirror", list(s, s))(array.Mirror(list(s), -30, false))
	for _, soft := range []bool{false, true} {
		want(t, "Mirror", sources{})(array.Mirror(nil, 100, soft))
		want(t, "Mirror", make(sources, 16))(array.Mirror(make(sources, 8), 0, soft))
		for wall := -100; wall <= 100; wall++ {
			for _, x := range []int{-100, -37, 0, 100} {
				source, image := array.Source{X: x, Y: -x}, array.Source{X: 2*wall - x, Y: -x}
				if image.X < -100 || image.X > 100 {
					fails[sources](t, "Mirror", api.ErrRange)(array.Mirror(list(source), wall, soft))
					fails[sources](t, "Mirror", api.ErrMany)(array.Mirror(slices.Repeat(list(source), 9), wall, soft))
					continue
				}
				want(t, "Mirror", list(source, image))(array.Mirror(list(source), wall, soft))
			}
		}
		fails[sources](t, "Mirror", api.ErrRange)(array.Mirror(list(at(100, 0), at(0, 0)), 51, soft))
		fails[sources](t, "Mirror", api.ErrMany)(array.Mirror(make(sources, 9), 0, soft))
		fails[sources](t, "Mirror", api.ErrMany)(array.Mirror(make(sources, 16), 100, soft))
		for _, wall := range wrongPlaces {
			for _, l := range []sources{nil, exampleA(), make(sources, 16)} {
				fails[sources](t, "Mirror", api.ErrRange)(array.Mirror(l, wall, soft))
			}
		}
		for _, x := range wrongArrays() {
			fails[sources](t, "Mirror", x.e)(array.Mirror(x.l, 0, soft))
			fails[sources](t, "Mirror", x.e)(array.Mirror(x.l, 101, soft))
		}
	}
}

// weight returns a weight.
func weight(x, y, re, im int) array.Weight {
	return array.Weight{X: x, Y: y, Sum: z(re, im)}
}

// P6.3: Normal adds up what stands at one place, leaves out what is 0, and sorts.
func TestNormal(t *testing.T) {
	twice := list(at(0, 0), at(1, 0), at(1, 0), at(2, 0))
	for _, x := range []struct {
		l       sources
		weights []array.Weight
	}{
		{nil, nil},
		{exampleA(), list(weight(0, 0, 1, 0), weight(1, 0, 1, 0))},
		{twice, list(weight(0, 0, 1, 0), weight(1, 0, 2, 0), weight(2, 0, 1, 0))},
		{list(at(1, -2), at(-1, 5), at(1, -7), at(-1, -5), at(0, 100), at(10, 0), at(2, 0)), list(weight(-1, -5, 1, 0), weight(-1, 5, 1, 0), weight(0, 100, 1, 0), weight(1, -7, 1, 0), weight(1, -2, 1, 0), weight(2, 0, 1, 0), weight(10, 0, 1, 0))},
		{list(wave(2, 0), wave(3, 1), wave(5, 2), wave(7, 3)), list(weight(0, 0, -3, -4))},
		{list(wave(2, 0), wave(2, 2)), nil},
		{list(wave(-2, 1), at(3, 3), wave(2, 1)), list(weight(3, 3, 1, 0))},
		{list(wave(0, 1), at(3, 3)), list(weight(3, 3, 1, 0))},
		{list(wave(2, 0), wave(2, 1), wave(-2, 0)), list(weight(0, 0, 0, 2))},
		{slices.Repeat(list(wave(-100, 3)), 16), list(weight(0, 0, 0, 1600))},
	} {
		want(t, "Normal", x.weights)(array.Normal(x.l))
	}
	want(t, "Normal", of[[]array.Weight](t)(array.Normal(of[sources](t)(array.Binomial(3, 1, 0)))))(array.Normal(twice))
	for _, l := range someArrays() {
		want(t, "Normal", weightsOf(l))(array.Normal(l))
	}
	for _, x := range wrongArrays() {
		fails[[]array.Weight](t, "Normal", x.e)(array.Normal(x.l))
	}
}

// P6.3: Symmetries of the chapter's examples, and of others.
func TestSymmetries(t *testing.T) {
	all := list(0, 1, 2, 3)
	ring := list(at(2, 1), at(-1, 2), at(-2, -1), at(1, -2))
	other := slices.Clone(ring)
	other[2].Phase = 1
	pairs := slices.Clone(ring)
	pairs[0].Gain, pairs[2].Gain = 3, 3
	for _, x := range []struct {
		l          sources
		symmetries []int
	}{
		{exampleA(), list(0)},
		{list(at(1, 0), at(-1, 0)), list(0, 2)},
		{nil, all},
		{list(wave(5, 2)), all},
		{ring, all},
		{append(slices.Clone(ring), at(0, 0)), all},
		{append(slices.Clone(ring), at(1, 0)), list(0)},
		{other, list(0)},
		{pairs, list(0, 2)},
		// The weights count, not the sources.
		{list(at(1, 0), array.Source{X: 1, Gain: -1}), all},
		{list(array.Source{X: 2, Gain: 2, Phase: 1}, array.Source{X: -2, Gain: -2, Phase: 3}), list(0, 2)},
		{list(array.Source{X: 1, Gain: 2}, at(-1, 0), at(-1, 0)), list(0, 2)},
		{append(slices.Clone(ring), array.Source{X: 50}), all},
		{list(at(1, 0), array.Source{X: -1, Gain: 1, Phase: 2}), list(0)},
	} {
		want(t, "Symmetries", x.symmetries)(array.Symmetries(x.l))
	}
	some := 0
	for _, l := range someArrays() {
		var symmetries []int
		turned := l
		for quarters := range 4 {
			if slices.Equal(weightsOf(turned), weightsOf(l)) {
				symmetries = append(symmetries, quarters)
			}
			turned = quarterTurn(turned)
		}
		want(t, "Symmetries", symmetries)(array.Symmetries(l))
		some += len(symmetries) - 1
	}
	same(t, "some symmetries", some > 5, true)
	for _, x := range wrongArrays() {
		fails[[]int](t, "Symmetries", x.e)(array.Symmetries(x.l))
	}
}

// P6.3: Binomial with all numbers of sources, up to the limits of places and beyond them.
func TestBinomial(t *testing.T) {
	for n, gains := range [][]int{{}, {1}, {1, 1}, {1, 2, 1}, {1, 3, 3, 1}, {1, 4, 6, 4, 1}, {1, 5, 10, 10, 5, 1}, {1, 6, 15, 20, 15, 6, 1}, {1, 7, 21, 35, 35, 21, 7, 1}, {1, 8, 28, 56, 70, 56, 28, 8, 1}} {
		if n == 0 {
			continue
		}
		for _, step := range [][2]int{{1, 0}, {0, 0}, {-2, 3}, {12, -12}, {-12, 12}} {
			var wanted sources
			for k, gain := range gains {
				wanted = append(wanted, array.Source{X: k * step[0], Y: k * step[1], Gain: gain})
			}
			want(t, "Binomial", wanted)(array.Binomial(n, step[0], step[1]))
		}
		// The last place is the one that is farthest.
		for step := -100; step <= 100; step++ {
			wanted := api.OK
			if last := (n - 1) * step; last < -100 || last > 100 {
				wanted = api.ErrRange
				fails[sources](t, "Binomial", api.ErrRange)(array.Binomial(n, step, 0))
			}
			l, e := array.Binomial(n, 1, step)
			same(t, "Binomial", []any{len(l) > 0, e}, []any{wanted == api.OK, wanted})
		}
	}
	want(t, "Binomial", list(at(0, 0)))(array.Binomial(1, 100, -100))
	want(t, "Binomial", list(at(0, 0), at(-100, 100)))(array.Binomial(2, -100, 100))
	for _, n := range []int{0, -1, 10, 16, 17, math.MinInt, math.MaxInt} {
		fails[sources](t, "Binomial", api.ErrRange)(array.Binomial(n, 0, 0))
	}
	for _, x := range wrongPlaces {
		for n := range 11 {
			fails[sources](t, "Binomial", api.ErrRange)(array.Binomial(n, x, 0))
			fails[sources](t, "Binomial", api.ErrRange)(array.Binomial(n, 0, x))
		}
	}
}
