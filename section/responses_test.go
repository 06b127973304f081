package section_test

import (
	"slices"
	"testing"

	"woofer/api"
	"woofer/section"
)

func ratio(num, den int) api.Ratio {
	return api.Ratio{Num: num, Den: den}
}

// g is re + i im.
func g(re, im int) api.Gauss {
	return api.Gauss{Re: re, Im: im}
}

// P5.3: Response of the chapter's example, and of others.
func TestResponse(t *testing.T) {
	full := back(filter(1, 10, 100, 3), 2, 5)
	for _, x := range []struct {
		s        section.Section
		quarter  int
		num, den api.Gauss
	}{
		{exampleS, 0, g(4, 0), g(2, 0)},
		{exampleS, 1, g(4, 0), g(4, 2)},
		{exampleS, 2, g(4, 0), g(6, 0)},
		{exampleS, 3, g(4, 0), g(4, -2)},
		{full, 0, g(111, 0), g(15, 0)},
		{full, 1, g(-99, -10), g(3, -2)},
		{full, 2, g(91, 0), g(11, 0)},
		{full, 3, g(-99, 10), g(3, 2)},
		{filter(1, 0, -1, 15), 0, g(0, 0), g(32768, 0)},
		{filter(1, 0, -1, 15), 1, g(2, 0), g(32768, 0)},
		{filter(2, 2, 0, 1), 2, g(0, 0), g(2, 0)},
		{section.Section{}, 3, g(0, 0), g(1, 0)},
	} {
		want(t, "Response", section.Pair{Num: x.num, Den: x.den})(section.Response(x.s, x.quarter))
	}
}

// P5.3: Response against complex numbers, and poles.
func TestResponsesAreNumbers(t *testing.T) {
	value := func(a, b, c int, z complex128) api.Gauss {
		sum := complex(float64(a), 0) + complex(float64(b), 0)*z + complex(float64(c), 0)*z*z
		return g(int(real(sum)), int(imag(sum)))
	}
	for _, s := range someSections() {
		z := complex(1, 0)
		for quarter := range 4 {
			den := value(1<<s.Shift, s.A1, s.A2, z)
			if den == (api.Gauss{}) {
				fails[section.Pair](t, "Response", api.ErrPole)(section.Response(s, quarter))
			} else {
				want(t, "Response", section.Pair{Num: value(s.B0, s.B1, s.B2, z), Den: den})(section.Response(s, quarter))
			}
			z *= -1i
		}
	}
	for _, x := range []struct {
		a1, a2, shift int
		poles         []int
	}{
		{-4, 0, 2, list(0)},
		{4, 0, 2, list(2)},
		{0, -4, 2, list(0, 2)},
		{0, 4, 2, list(1, 3)},
		{-2, -2, 2, list(0)},
		{2, -2, 2, list(2)},
		{-2, 1, 0, list(0)},
		{2, 1, 0, list(2)},
		{1, 4, 2, nil},
		{-32767, -1, 15, list(0)},
	} {
		for quarter := range 4 {
			_, e := section.Response(back(filter(1, 2, 3, x.shift), x.a1, x.a2), quarter)
			same(t, "Response", e == api.ErrPole, slices.Contains(x.poles, quarter))
		}
	}
}

// P5.3: Delay of the chapter's examples, and of all sections with small taps.
func TestDelay(t *testing.T) {
	one, half := ratio(1, 1), ratio(1, 2)
	for _, x := range []struct {
		s     section.Section
		delay api.Ratio
	}{
		{filter(1, 2, 1, 2), one},
		{filter(1, 1, 0, 0), half},
		{filter(0, 1, 0, 0), one},
		{filter(1, 0, 1, 15), one},
		{filter(1, 1, 1, 0), one},
		{filter(-3, 5, -3, 0), one},
		{filter(-32767, -32767, 0, 0), half},
	} {
		want(t, "Delay", x.delay)(section.Delay(x.s))
	}
	for _, s := range []section.Section{
		{}, filter(0, 0, 0, 15), filter(1, 0, 0, 0), filter(0, 0, 1, 0), filter(0, 1, 1, 0), filter(1, 0, -1, 0), filter(1, -1, 0, 0), filter(1, 2, 0, 0), filter(1, 1, 2, 0),
		back(filter(1, 2, 1, 2), 1, 0), back(filter(1, 2, 1, 2), 0, -1), back(filter(1, 1, 0, 2), 1, 1), back(filter(1, 1, 0, 2), -1, 1), back(filter(0, 0, 0, 2), 1, 1),
	} {
		fails[api.Ratio](t, "Delay", api.ErrNone)(section.Delay(s))
	}
	for n := range 27 {
		s := filter(n%3-1, n/3%3-1, n/9-1, n%16)
		switch {
		case s.B0 == 0 && s.B1 == 0 && s.B2 == 0:
			fails[api.Ratio](t, "Delay", api.ErrNone)(section.Delay(s))
		case s.B0 == s.B2:
			want(t, "Delay", one)(section.Delay(s))
		case s.B2 == 0 && s.B0 == s.B1:
			want(t, "Delay", half)(section.Delay(s))
		default:
			fails[api.Ratio](t, "Delay", api.ErrNone)(section.Delay(s))
		}
		fails[api.Ratio](t, "Delay", api.ErrNone)(section.Delay(back(s, n-13, n%2)))
	}
}

// P5.3: Mirror.
func TestMirror(t *testing.T) {
	s := section.Section{B0: 1, B1: 2, B2: 3, A1: 4, A2: 5, Shift: 6}
	want(t, "Mirror", section.Section{B0: 3, B1: 2, B2: 1, A1: 4, A2: 5, Shift: 6})(section.Mirror(s))
	want(t, "Mirror", section.Section{B2: 4, A1: -2, Shift: 2})(section.Mirror(exampleS))
	for _, s := range someSections() {
		mirrored := of[section.Section](t)(section.Mirror(s))
		want(t, "Mirror of a mirror", s)(section.Mirror(mirrored))
	}
}

// P5.3: Nearest: each tap counts once, the shift decides whether there is a distance, the least index stays.
func TestNearest(t *testing.T) {
	at := section.Section{B0: 10, B1: 20, B2: 30, A1: -10, A2: -20, Shift: 3}
	moved := func(b0, b1, b2, a1, a2, shift int) section.Section {
		return section.Section{B0: at.B0 + b0, B1: at.B1 + b1, B2: at.B2 + b2, A1: at.A1 + a1, A2: at.A2 + a2, Shift: at.Shift + shift}
	}
	for _, x := range []struct {
		l       []section.Section
		nearest int
	}{
		{list(at), 0},
		{list(moved(9, 9, 9, 9, 9, 0)), 0},
		{list(moved(1, 0, 0, 0, 0, 0), at), 1},
		{list(moved(0, 0, 0, 0, 0, 1), moved(99, 99, 99, 99, 99, 0)), 1},
		{list(moved(0, 0, 0, 0, 0, -1), moved(5, 0, 0, 0, 0, 0), moved(4, 0, 0, 0, 0, 0), moved(3, 0, 0, 0, 0, 1)), 2},
		{list(moved(3, 0, 0, 0, 0, 0), moved(0, 0, 0, 0, -2, 0), moved(0, 1, 0, 1, 0, 0)), 1},
		{list(moved(3, 0, 0, 0, 0, 0), moved(0, 1, 0, 1, 0, 0), moved(0, 0, -2, 0, 0, 0)), 1},
		{list(moved(-1, 1, -1, 1, -1, 0), moved(6, 0, 0, 0, 0, 0)), 0},
		{list(moved(-1, 1, -1, 1, -1, 0), moved(0, 0, 4, 0, 0, 0)), 1},
		{list(moved(0, -5, 0, 0, 0, 0), moved(0, 5, 0, 0, 0, 0), moved(0, 0, 0, 5, 0, 0)), 0},
		{append(slices.Repeat(list(moved(0, 0, 0, 0, 0, 5)), 7), moved(-9, 0, 0, 0, 0, 0)), 7},
	} {
		want(t, "Nearest", x.nearest)(section.Nearest(x.l, at))
	}
	const most = section.MaxTap
	far := back(filter(most, -most, most, 0), -most, most)
	opposite := back(filter(-most, most, -most, 0), most, -most)
	want(t, "Nearest", 1)(section.Nearest(list(opposite, back(opposite, most, 1-most)), far))
	for _, l := range [][]section.Section{nil, list(moved(0, 0, 0, 0, 0, 1)), list(moved(0, 0, 0, 0, 0, -3), moved(1, 0, 0, 0, 0, 12))} {
		fails[int](t, "Nearest", api.ErrNone)(section.Nearest(l, at))
	}
}

// P5.3: the errors of arguments, from left to right, and nothing beside them.
func TestWrongResponses(t *testing.T) {
	pole := back(filter(1, 0, 0, 2), -4, 0)
	for _, s := range wrongSections() {
		fails[section.Pair](t, "Response", api.ErrRange)(section.Response(s, 0))
		fails[api.Ratio](t, "Delay", api.ErrRange)(section.Delay(s))
		fails[section.Section](t, "Mirror", api.ErrRange)(section.Mirror(s))
		fails[int](t, "Nearest", api.ErrRange)(section.Nearest(nil, s))
		fails[int](t, "Nearest", api.ErrRange)(section.Nearest(list(exampleS), s))
		fails[int](t, "Nearest", api.ErrRange)(section.Nearest(list(s), exampleS))
		fails[int](t, "Nearest", api.ErrRange)(section.Nearest(list(exampleS, s), exampleS))
	}
	for _, n := range append(wrongValues, -1, 4) {
		fails[section.Pair](t, "Response", api.ErrRange)(section.Response(exampleS, n))
		fails[section.Pair](t, "Response", api.ErrRange)(section.Response(pole, n))
	}
	for _, x := range wrongLists() {
		fails[int](t, "Nearest", x.e)(section.Nearest(x.l, exampleS))
		fails[int](t, "Nearest", x.e)(section.Nearest(x.l, wrongSections()[0]))
	}
}
