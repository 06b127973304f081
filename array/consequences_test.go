package array_test

import (
	"fmt"
	"math"
	"slices"
	"testing"

	"woofer/api"
	"woofer/array"
)

// product returns the product of two complex integers.
func product(a, b api.Gauss) api.Gauss {
	return z(a.Re*b.Re-a.Im*b.Im, a.Re*b.Im+a.Im*b.Re)
}

// levelsOf returns the levels of sources in all directions.
func levelsOf(t *testing.T, l sources) [array.Directions]int {
	var levels [array.Directions]int
	for d := range levels {
		levels[d] = of[int](t)(array.Level(l, d))
	}
	return levels
}

// P6.6, P7: the pattern of a turned array is the turned pattern.
func TestPatternsTurn(t *testing.T) {
	for _, l := range someArrays() {
		own := of[pattern](t)(array.Pattern(l))
		for quarters := -5; quarters <= 5; quarters++ {
			var turned pattern
			for d, p := range own {
				turned[(d+2*quarters+16)%8] = p
			}
			want(t, "Pattern of a turned array", turned)(array.Pattern(of[sources](t)(array.Turn(l, quarters))))
		}
	}
}

// P6.6: a shifted array has the same levels, and comes back.
func TestShiftsKeepLevels(t *testing.T) {
	next := random(31)
	shifted := 0
	for _, l := range someArrays() {
		x, y := next(-9, 9), next(-9, 9)
		behind, e := array.Shift(l, x, y)
		if e != api.OK {
			same(t, "Shift", e, api.ErrRange)
			continue
		}
		shifted++
		same(t, "levels of a shifted array", levelsOf(t, behind), levelsOf(t, l))
		want(t, "Shift back", l)(array.Shift(behind, -x, -y))
	}
	same(t, "enough shifted arrays", shifted > 100, true)
}

// P6.6, P7: the pattern of a repeated array is the product of both.
func TestRepetitionsMultiply(t *testing.T) {
	next := random(37)
	for range 300 {
		l, by := drawn(next, next(0, 4), 50, 10), drawn(next, next(0, 4), 50, 10)
		wanted := of[pattern](t)(array.Pattern(l))
		for d, p := range of[pattern](t)(array.Pattern(by)) {
			wanted[d] = product(wanted[d], p)
		}
		both := of[sources](t)(array.Repeat(l, by))
		want(t, "Pattern of a repeated array", wanted)(array.Pattern(both))
		other := of[sources](t)(array.Repeat(by, l))
		want(t, "Normal the other way round", of[[]array.Weight](t)(array.Normal(both)))(array.Normal(other))
	}
	// A row by n - 1 repetitions of two sources has the binomial gains.
	row := list(at(0, 0))
	for n := 1; n <= 5; n++ {
		want(t, "Normal of a row", of[[]array.Weight](t)(array.Normal(row)))(array.Normal(of[sources](t)(array.Binomial(n, 3, -2))))
		if n < 5 {
			row = of[sources](t)(array.Repeat(row, list(at(0, 0), at(3, -2))))
		}
	}
}

// P6.6: pressures come back from their harmonics, whose levels are four times theirs together.
func TestHarmonicsComeBack(t *testing.T) {
	next := random(41)
	for range 500 {
		p := drawnFour(next, list(1, 9, 1000, 90000000)[next(0, 3)])
		h := of[four](t)(array.Harmonics(p))
		want(t, "Back", p)(array.Back(h))
		sum, sumOfHarmonics := 0, 0
		for i := range p {
			sum += square(p[i])
			sumOfHarmonics += square(h[i])
		}
		same(t, "levels of harmonics", sumOfHarmonics, 4*sum)
	}
}

// P6.6: sources with the same weights have the same pattern.
func TestWeightsMakePatterns(t *testing.T) {
	next := random(43)
	for _, l := range someArrays() {
		var other sources
		for _, w := range of[[]array.Weight](t)(array.Normal(l)) {
			other = append(other, array.Source{X: w.X, Y: w.Y, Gain: w.Sum.Re}, array.Source{X: w.X, Y: w.Y, Gain: -w.Sum.Im, Phase: 3})
		}
		if array.CheckSources(other) == api.OK {
			want(t, "Normal of weights", of[[]array.Weight](t)(array.Normal(l)))(array.Normal(other))
			want(t, "Pattern of weights", of[pattern](t)(array.Pattern(l)))(array.Pattern(other))
		}
		// The same waves with other signs, in another order.
		mixed := slices.Clone(l)
		for i := range mixed {
			if next(0, 1) == 0 {
				mixed[i].Gain, mixed[i].Phase = -mixed[i].Gain, (mixed[i].Phase+2)%4
			}
			k := next(0, i)
			mixed[i], mixed[k] = mixed[k], mixed[i]
		}
		want(t, "Normal of other signs", of[[]array.Weight](t)(array.Normal(l)))(array.Normal(mixed))
		want(t, "Pattern of other signs", of[pattern](t)(array.Pattern(l)))(array.Pattern(mixed))
	}
}

// P6.6, P7: no phases have a greater score than the best ones.
func TestBestIsBest(t *testing.T) {
	next := random(47)
	for range 100 {
		l := drawn(next, next(0, array.MaxPhased), list(3, array.MaxPlace)[next(0, 1)], list(2, array.MaxGain)[next(0, 1)])
		a := drawnAudience(next, array.MaxWeight)
		best, most, e := array.Best(l, a)
		same(t, "Best", e, api.OK)
		want(t, "Score of the best", most)(array.Score(best, a))
		for range 20 {
			for i := range l {
				l[i].Phase = next(0, 3)
			}
			same(t, "no greater score", of[int](t)(array.Score(l, a)) <= most, true)
		}
		for d := range array.Directions {
			var one audience
			one[d] = 1
			_, loudest, _ := array.Best(l, one)
			want(t, "the level of steered sources", loudest)(array.Level(of[sources](t)(array.Steer(l, d)), d))
		}
	}
}

// P6.6: no level is above the square of the sum of all gains, which steering reaches.
func TestSteeringReaches(t *testing.T) {
	for _, l := range someArrays() {
		sum := 0
		for _, s := range l {
			sum += max(s.Gain, -s.Gain)
		}
		for d, level := range levelsOf(t, l) {
			same(t, "a level within the square", level <= sum*sum, true)
			steered := of[sources](t)(array.Steer(l, d))
			want(t, "Pressure of steered sources", z(sum, 0))(array.Pressure(steered, d))
			want(t, "Level of steered sources", sum*sum)(array.Level(steered, d))
		}
	}
}

// P6.6: along a hard wall the pressure is doubled, along a soft one it is 0.
func TestWalls(t *testing.T) {
	next := random(53)
	for range 300 {
		l, wall := drawn(next, next(0, 8), 30, array.MaxGain), next(-30, 30)
		hard := of[pattern](t)(array.Pattern(of[sources](t)(array.Mirror(l, wall, false))))
		soft := of[pattern](t)(array.Pattern(of[sources](t)(array.Mirror(l, wall, true))))
		own := of[pattern](t)(array.Pattern(l))
		for _, d := range list(2, 6) {
			same(t, "along a hard wall", hard[d], z(2*own[d].Re, 2*own[d].Im))
			same(t, "along a soft wall", soft[d], z(0, 0))
		}
	}
}

// P6.6: sources are parsed as they were printed.
func TestSourcesComeBack(t *testing.T) {
	for _, l := range someArrays() {
		parses(t, of[string](t)(array.Print(l)), l)
	}
}

// P6.1 to P6.5, the rule Memory: arguments are not modified, and results share no memory with them or with each other.
func TestMemory(t *testing.T) {
	l, by := append(make(sources, 0, 9), exampleA()...), append(make(sources, 0, 9), at(0, 0), at(5, 5))
	results := func() (text string, change func()) {
		turned := of[sources](t)(array.Turn(l, 0))
		shifted := of[sources](t)(array.Shift(l, 0, 0))
		repeated := of[sources](t)(array.Repeat(l, list(at(0, 0))))
		other := of[sources](t)(array.Repeat(list(at(0, 0)), by))
		mirrored := of[sources](t)(array.Mirror(l, 0, false))
		steered := of[sources](t)(array.Steer(l, 2))
		best, _, _ := array.Best(l, audience{2: 1})
		row := of[sources](t)(array.Binomial(2, 1, 0))
		weights := of[[]array.Weight](t)(array.Normal(l))
		nulls := of[[]int](t)(array.Nulls(nil))
		symmetries := of[[]int](t)(array.Symmetries(l))
		parsed, _, _ := array.Parse("source 1 2 3 0\nsource 1 2 3 0\n")
		return fmt.Sprint(turned, shifted, repeated, other, mirrored, steered, best, row, weights, nulls, symmetries, parsed), func() {
			for _, x := range []sources{turned, shifted, repeated, other, mirrored, steered, best, row, parsed} {
				same(t, "results do not share memory", slices.ContainsFunc(x, func(s array.Source) bool { return s.X == 77 }), false)
				for i := range x {
					x[i].X = 77
				}
			}
			weights[0].X, nulls[0], symmetries[0] = 77, 77, 77
		}
	}
	before := fmt.Sprint(l, by, l[:9], by[:9])
	wanted, change := results()
	same(t, "arguments", fmt.Sprint(l, by, l[:9], by[:9]), before)
	change()
	same(t, "arguments behind a change of results", fmt.Sprint(l, by, l[:9], by[:9]), before)
	text, _ := results()
	same(t, "results behind it", text, wanted)
}

// P1: no function panics, whatever its arguments are.
func TestNothingPanics(t *testing.T) {
	numbers := []int{math.MinInt, math.MinInt32, -101, -4, -1, 0, 1, 3, 4, 7, 8, 9, 16, 100, 101, math.MaxInt32, math.MaxInt}
	for _, a := range numbers {
		for _, b := range numbers {
			odd := array.Source{X: a, Y: b, Gain: a, Phase: b}
			var all audience
			for i := range all {
				all[i] = list(a, b)[i%2]
			}
			for _, l := range []sources{nil, list(odd), append(exampleA(), odd), slices.Repeat(list(odd), 7), slices.Repeat(list(array.Source{X: 100, Gain: -100, Phase: 3}), 16), make(sources, 17)} {
				array.CheckSources(l)
				array.Pattern(l)
				array.Balloon(l)
				array.Nulls(l)
				array.Normal(l)
				array.Symmetries(l)
				array.Print(l)
				array.Pressure(l, a)
				array.Level(l, a)
				array.Directivity(l, b)
				array.Turn(l, a)
				array.Shift(l, a, b)
				array.Repeat(l, list(odd))
				array.Repeat(l, l)
				array.Mirror(l, a, b > 0)
				array.Steer(l, b)
				array.Score(l, all)
				array.Best(l, all)
			}
			array.Step(a)
			array.Path(odd, a)
			array.Path(at(1, 2), b)
			array.Harmonics(four{z(a, b), z(b, a), z(1, a), z(b, 1)})
			array.Back(four{z(a, b), z(b, a), z(1, a), z(b, 1)})
			array.Binomial(a, b, 1)
			array.Binomial(3, a, b)
		}
	}
	array.Parse("\xff \x00 1 2 3 4\n\n")
	array.Parse("source")
}
