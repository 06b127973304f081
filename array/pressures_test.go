package array_test

import (
	"slices"
	"testing"

	"woofer/api"
	"woofer/array"
)

// P6.1: CheckSources, with each number at its limits and beyond them.
func TestCheckSources(t *testing.T) {
	for _, l := range someArrays() {
		same(t, "CheckSources", array.CheckSources(l), api.OK)
	}
	for i, most := range []int{array.MaxPlace, array.MaxPlace, array.MaxGain, 3} {
		least := -most
		if i == 3 {
			least = 0
		}
		for n := least - 3; n <= most+3; n++ {
			var s array.Source
			*numbersOf(&s)[i] = n
			wanted := api.OK
			if n < least || n > most {
				wanted = api.ErrRange
			}
			same(t, "CheckSources", array.CheckSources(list(s)), wanted)
		}
	}
	for n := range 20 {
		wanted := api.OK
		if n > 16 {
			wanted = api.ErrMany
		}
		same(t, "CheckSources", array.CheckSources(make(sources, n)), wanted)
	}
	for _, x := range wrongArrays() {
		same(t, "CheckSources", array.CheckSources(x.l), x.e)
	}
}

// stepIs requires the results of Step.
func stepIs(t *testing.T, direction, x, y int, wanted api.Errno) {
	t.Helper()
	gotX, gotY, e := array.Step(direction)
	same(t, "Step", []any{gotX, gotY, e}, []any{x, y, wanted})
}

// P6.1: Step in all directions, and beyond them.
func TestStep(t *testing.T) {
	for d, step := range [][2]int{{1, 0}, {1, 1}, {0, 1}, {-1, 1}, {-1, 0}, {-1, -1}, {0, -1}, {1, -1}} {
		stepIs(t, d, step[0], step[1], api.OK)
	}
	for _, d := range wrongDirections {
		stepIs(t, d, 0, 0, api.ErrRange)
	}
}

// P6.1: Path in all directions, also of sources without gain.
func TestPath(t *testing.T) {
	for _, x := range []struct {
		s     array.Source
		paths [array.Directions]int
	}{
		{array.Source{}, [array.Directions]int{}},
		{at(1, 0), [array.Directions]int{1, 1, 0, -1, -1, -1, 0, 1}},
		{array.Source{X: 3, Y: 10}, [array.Directions]int{3, 13, 10, 7, -3, -13, -10, -7}},
		{array.Source{X: -3, Y: 10, Gain: -5, Phase: 3}, [array.Directions]int{-3, 7, 10, 13, 3, -7, -10, -13}},
		{array.Source{X: 100, Y: -100, Gain: 100}, [array.Directions]int{100, 0, -100, -200, -100, 0, 100, 200}},
	} {
		for d, path := range x.paths {
			want(t, "Path", path)(array.Path(x.s, d))
			same(t, "path of the reference", pathOf(x.s, d), path)
		}
	}
	for _, s := range wrongSources() {
		fails[int](t, "Path", api.ErrRange)(array.Path(s, 0))
		fails[int](t, "Path", api.ErrRange)(array.Path(s, 8))
	}
	for _, d := range wrongDirections {
		fails[int](t, "Path", api.ErrRange)(array.Path(at(1, 0), d))
	}
}

// has requires the pressures of sources in all directions, and what follows from them.
func has(t *testing.T, l sources, wanted pattern) {
	t.Helper()
	want(t, "Pattern", wanted)(array.Pattern(l))
	var balloon [array.Directions]complex64
	for d, p := range wanted {
		want(t, "Pressure", p)(array.Pressure(l, d))
		want(t, "Level", square(p))(array.Level(l, d))
		balloon[d] = complex(float32(p.Re)*0.0625, float32(p.Im)*0.0625)
	}
	want(t, "Balloon", balloon)(array.Balloon(l))
}

// P6.1: the pressures of the chapter's examples, and of others.
func TestPressures(t *testing.T) {
	one, i := z(1, 0), z(0, 1)
	all := func(p api.Gauss) pattern {
		return pattern{p, p, p, p, p, p, p, p}
	}
	has(t, nil, pattern{})
	has(t, exampleA(), pattern{z(1, 1), z(1, 1), z(2, 0), z(1, -1), z(1, -1), z(1, -1), z(2, 0), z(1, 1)})
	has(t, list(at(0, 0), array.Source{X: 1, Gain: 1, Phase: 3}), pattern{z(2, 0), z(2, 0), z(1, -1), {}, {}, {}, z(1, -1), z(2, 0)})
	has(t, list(at(0, 0), at(1, 0), at(1, 0), at(2, 0)), pattern{z(0, 2), z(0, 2), z(4, 0), z(0, -2), z(0, -2), z(0, -2), z(4, 0), z(0, 2)})
	has(t, list(at(0, 1)), pattern{one, i, i, i, one, z(0, -1), z(0, -1), z(0, -1)})
	has(t, list(at(2, 1)), pattern{z(-1, 0), z(0, -1), i, z(0, -1), z(-1, 0), i, z(0, -1), i})
	// Each phase, and gains below 0.
	for phase, power := range []api.Gauss{one, i, z(-1, 0), z(0, -1)} {
		has(t, list(wave(3, phase)), all(z(3*power.Re, 3*power.Im)))
		has(t, list(wave(-3, phase)), all(z(-3*power.Re, -3*power.Im)))
		has(t, list(wave(0, phase)), pattern{})
	}
	has(t, list(wave(3, 0), wave(5, 1), wave(4, 2), wave(2, 3), wave(-7, 1)), all(z(-1, -4)))
	// The greatest ones.
	has(t, slices.Repeat(list(wave(100, 0)), 16), all(z(1600, 0)))
	has(t, slices.Repeat(list(wave(-100, 1)), 16), all(z(0, -1600)))
	want(t, "the greatest level", 2560000)(array.Level(slices.Repeat(list(wave(100, 3)), 16), 5))
}

// P6.1: Balloon is one sixteenth, without any rounding.
func TestBalloon(t *testing.T) {
	balloon := of[[array.Directions]complex64](t)(array.Balloon(exampleA()))
	same(t, "Balloon", balloon, [array.Directions]complex64{0.0625 + 0.0625i, 0.0625 + 0.0625i, 0.125, 0.0625 - 0.0625i, 0.0625 - 0.0625i, 0.0625 - 0.0625i, 0.125, 0.0625 + 0.0625i})
	for _, l := range someArrays() {
		balloon := of[[array.Directions]complex64](t)(array.Balloon(l))
		for d, p := range of[pattern](t)(array.Pattern(l)) {
			same(t, "sixteen times Balloon", balloon[d]*16, complex(float32(p.Re), float32(p.Im)))
		}
	}
}

// P6.1: Path, Pattern, Pressure, Balloon and Level against waves that are complex numbers.
func TestPressuresAreWaves(t *testing.T) {
	for _, l := range someArrays() {
		has(t, l, patternOf(l))
		for _, s := range l {
			for d := range array.Directions {
				want(t, "Path", pathOf(s, d))(array.Path(s, d))
			}
		}
	}
}

// P6.1: the errors of arguments, from left to right, and nothing beside them.
func TestWrongPressures(t *testing.T) {
	for _, x := range wrongArrays() {
		fails[pattern](t, "Pattern", x.e)(array.Pattern(x.l))
		fails[[array.Directions]complex64](t, "Balloon", x.e)(array.Balloon(x.l))
		for _, d := range append([]int{0, 7}, wrongDirections...) {
			fails[api.Gauss](t, "Pressure", x.e)(array.Pressure(x.l, d))
			fails[int](t, "Level", x.e)(array.Level(x.l, d))
		}
	}
	for _, l := range []sources{nil, exampleA()} {
		for _, d := range wrongDirections {
			fails[api.Gauss](t, "Pressure", api.ErrRange)(array.Pressure(l, d))
			fails[int](t, "Level", api.ErrRange)(array.Level(l, d))
		}
	}
}
