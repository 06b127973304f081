package array_test

import (
	"math"
	"math/big"
	"testing"

	"woofer/api"
	"woofer/array"
)

// P6.2: Nulls of the chapter's examples, and of others.
func TestNulls(t *testing.T) {
	all := list(0, 1, 2, 3, 4, 5, 6, 7)
	for _, x := range []struct {
		l     sources
		nulls []int
	}{
		{nil, all},
		{exampleA(), nil},
		{list(at(0, 0), array.Source{X: 1, Gain: 1, Phase: 3}), list(3, 4, 5)},
		{list(at(0, 0), array.Source{X: 1, Gain: 1, Phase: 1}), list(0, 1, 7)},
		{list(at(1, 0), at(-1, 0)), list(0, 1, 3, 4, 5, 7)},
		{list(at(0, 0), at(0, 2)), list(1, 2, 3, 5, 6, 7)},
		{list(wave(1, 0), wave(-1, 0)), all},
		{list(wave(5, 0), wave(5, 2)), all},
		{list(wave(1, 0), wave(1, 1)), nil},
		{list(wave(0, 0)), all},
	} {
		want(t, "Nulls", x.nulls)(array.Nulls(x.l))
	}
	count := 0
	for _, l := range someArrays() {
		var nulls []int
		for d, p := range patternOf(l) {
			if p == (api.Gauss{}) {
				nulls = append(nulls, d)
			}
		}
		want(t, "Nulls", nulls)(array.Nulls(l))
		if len(nulls) > 0 && len(nulls) < 8 {
			count++
		}
	}
	same(t, "enough arrays with some nulls", count > 20, true)
	for _, x := range wrongArrays() {
		fails[[]int](t, "Nulls", x.e)(array.Nulls(x.l))
	}
}

// ratio returns a ratio.
func ratio(num, den int) api.Ratio {
	return api.Ratio{Num: num, Den: den}
}

// P6.2: Directivity of the chapter's example, and of others.
func TestDirectivity(t *testing.T) {
	for _, x := range []struct {
		l         sources
		direction int
		wanted    api.Ratio
	}{
		{exampleA(), 0, ratio(4, 5)},
		{exampleA(), 2, ratio(8, 5)},
		{exampleA(), 6, ratio(8, 5)},
		{exampleA(), 7, ratio(4, 5)},
		{list(at(1, 2)), 3, ratio(1, 1)},
		{list(wave(-100, 3)), 5, ratio(1, 1)},
		{list(at(1, 0), at(-1, 0)), 0, ratio(0, 1)},
		{list(at(1, 0), at(-1, 0)), 2, ratio(4, 1)},
		{list(at(0, 0), array.Source{X: 1, Gain: 1, Phase: 3}), 0, ratio(2, 1)},
		{list(at(0, 0), array.Source{X: 1, Gain: 1, Phase: 3}), 4, ratio(0, 1)},
		{list(at(0, 0), array.Source{X: 1, Gain: 2}), 2, ratio(3, 2)}, // 8 times 9 by 48
		{list(at(0, 0), array.Source{X: 1, Gain: 2}), 0, ratio(5, 6)},
	} {
		want(t, "Directivity", x.wanted)(array.Directivity(x.l, x.direction))
	}
	for _, l := range someArrays() {
		sum := 0
		for _, p := range patternOf(l) {
			sum += square(p)
		}
		for d, p := range patternOf(l) {
			if sum == 0 {
				fails[api.Ratio](t, "Directivity", api.ErrZero)(array.Directivity(l, d))
				continue
			}
			wanted := big.NewRat(int64(8*square(p)), int64(sum))
			want(t, "Directivity", ratio(int(wanted.Num().Int64()), int(wanted.Denom().Int64())))(array.Directivity(l, d))
		}
	}
}

// P6.2: the errors of Directivity, in their order.
func TestWrongDirectivity(t *testing.T) {
	silent := []sources{nil, list(wave(0, 1)), list(wave(3, 1), wave(3, 3)), list(at(4, 5), array.Source{X: 4, Y: 5, Gain: -1})}
	for _, l := range silent {
		for d := range array.Directions {
			fails[api.Ratio](t, "Directivity", api.ErrZero)(array.Directivity(l, d))
		}
		for _, d := range wrongDirections {
			fails[api.Ratio](t, "Directivity", api.ErrRange)(array.Directivity(l, d))
		}
	}
	for _, d := range wrongDirections {
		fails[api.Ratio](t, "Directivity", api.ErrRange)(array.Directivity(exampleA(), d))
	}
	for _, x := range wrongArrays() {
		for _, d := range list(0, 7, -1, 8) {
			fails[api.Ratio](t, "Directivity", x.e)(array.Directivity(x.l, d))
		}
	}
}

// P6.2: Harmonics and Back of the chapter's example, and of others.
func TestHarmonics(t *testing.T) {
	const most = api.MaxNumber
	for _, x := range []struct {
		pressures, harmonics four
	}{
		{four{z(1, 1), z(2, 0), z(1, -1), z(2, 0)}, four{z(6, 0), z(0, 2), z(-2, 0), z(0, 2)}},
		{four{}, four{}},
		{four{z(1, 0)}, four{z(1, 0), z(1, 0), z(1, 0), z(1, 0)}},
		{four{{}, z(1, 0)}, four{z(1, 0), z(0, -1), z(-1, 0), z(0, 1)}},
		{four{{}, {}, z(1, 0)}, four{z(1, 0), z(-1, 0), z(1, 0), z(-1, 0)}},
		{four{{}, {}, {}, z(1, 0)}, four{z(1, 0), z(0, 1), z(-1, 0), z(0, -1)}},
		{four{z(0, 1)}, four{z(0, 1), z(0, 1), z(0, 1), z(0, 1)}},
		{four{{}, z(0, 1)}, four{z(0, 1), z(1, 0), z(0, -1), z(-1, 0)}},
		{four{z(1, 0), z(0, 1), z(-1, 0), z(0, -1)}, four{{}, z(4, 0), {}, {}}},
		{four{z(1, 0), z(0, -1), z(-1, 0), z(0, 1)}, four{{}, {}, {}, z(4, 0)}},
		{four{z(0, 3), z(0, -3), z(0, 3), z(0, -3)}, four{{}, {}, z(0, 12), {}}},
		{four{z(most, -most)}, four{z(most, -most), z(most, -most), z(most, -most), z(most, -most)}},
	} {
		want(t, "Harmonics", x.harmonics)(array.Harmonics(x.pressures))
		want(t, "Back", x.pressures)(array.Back(x.harmonics))
	}
	// Harmonics may be beyond MaxNumber.
	m := z(most, most)
	want(t, "Harmonics", four{z(4*most, 4*most)})(array.Harmonics(four{m, m, m, m}))
	want(t, "Back", four{m})(array.Back(four{m, m, m, m}))
	low := z(-most, most)
	want(t, "Harmonics", four{{}, z(-4*most, 4*most)})(array.Harmonics(four{low, z(-most, -most), z(most, -most), m}))
}

// P6.2: Back of harmonics of which some have no pressures that are complex integers.
func TestBackConflict(t *testing.T) {
	for _, h := range []four{
		{z(1, 0)}, {z(2, 0)}, {z(3, 0)}, {z(0, 1)}, {z(0, -2)}, {{}, z(1, 0)}, {{}, {}, {}, z(0, -1)}, {z(2, 0), z(2, 0)}, {z(2, 0), {}, z(0, 2)},
		{z(6, 0), z(0, 2), z(-2, 0), z(1, 2)}, {z(7, 0), z(0, 2), z(-2, 0), z(0, 2)}, {z(6, 0), z(0, 2), z(-2, 1), z(0, 2)}, {z(6, 0), z(0, 2), z(1, 0), z(0, 2)},
		{z(api.MaxNumber, 0)}, {{}, {}, {}, z(0, -api.MaxNumber)}, {z(2, 0), z(2, 0), z(2, 0), z(2, 1)},
	} {
		fails[four](t, "Back", api.ErrConflict)(array.Back(h))
	}
	want(t, "Back", four{z(1, 0), {}, z(1, 0)})(array.Back(four{z(2, 0), {}, z(2, 0)}))
}

// P6.2: Harmonics and Back against sums of complex numbers.
func TestHarmonicsAreSums(t *testing.T) {
	next := random(17)
	found, conflicts := 0, 0
	for range 1000 {
		p := drawnFour(next, list(1, 3, 50, 100000)[next(0, 3)])
		factor := next(1, 4)
		for i, x := range p {
			p[i] = z(factor*x.Re, factor*x.Im)
		}
		var harmonics, back four
		whole := true
		for m := range 4 {
			var h, b complex128
			for k, x := range p {
				sin, cos := math.Sincos(math.Pi / 2 * float64(m*k))
				value := complex(float64(x.Re), float64(x.Im))
				h += value * complex(cos, -sin)
				b += value * complex(cos, sin)
			}
			harmonics[m], back[m] = rounded(h), rounded(b)
			whole = whole && back[m].Re%4 == 0 && back[m].Im%4 == 0
			back[m] = z(back[m].Re/4, back[m].Im/4)
		}
		want(t, "Harmonics", harmonics)(array.Harmonics(p))
		if !whole {
			fails[four](t, "Back", api.ErrConflict)(array.Back(p))
			conflicts++
			continue
		}
		want(t, "Back", back)(array.Back(p))
		found++
	}
	same(t, "enough of both sorts", found > 200 && conflicts > 500, true)
}

// P6.2: parts of pressures and harmonics that are too large.
func TestWrongHarmonics(t *testing.T) {
	for _, p := range wrongFours() {
		fails[four](t, "Harmonics", api.ErrRange)(array.Harmonics(p))
		fails[four](t, "Back", api.ErrRange)(array.Back(p))
	}
}
