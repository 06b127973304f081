package section_test

import (
	"math"
	"math/big"
	"math/cmplx"
	"testing"

	"woofer/api"
	"woofer/section"
)

// settles requires that a section settles from a state after n steps with a cycle of the length p.
func settles(t *testing.T, s section.Section, x section.State, n, p int) {
	t.Helper()
	gotN, gotP, e := section.Settle(s, x)
	same(t, "Settle", []any{gotN, gotP, e}, []any{n, p, api.OK})
}

// settlesNot requires an error of Settle.
func settlesNot(t *testing.T, s section.Section, x section.State, wanted api.Errno) {
	t.Helper()
	n, p, e := section.Settle(s, x)
	same(t, "Settle", []any{n, p, e}, []any{0, 0, wanted})
}

// P5.2: Settle of the chapter's examples, and of others.
func TestSettle(t *testing.T) {
	turning := back(filter(0, 0, 0, 0), 0, 1) // each output is the opposite of the last but one
	for _, x := range []struct {
		s    section.Section
		x    section.State
		n, p int
	}{
		{exampleS, outputs(1, 2), 2, 1},
		{exampleS, outputs(-1, -1), 0, 1},
		{exampleS, section.State{}, 0, 1},
		{exampleS, outputs(0, 1), 1, 1},
		{exampleS, inputs(0, 1), 1, 1},
		{exampleS, inputs(1, 0), 2, 1},
		{exampleS, outputs(-1, 0), 1, 1},
		{exampleS, outputs(8, 0), 5, 1},
		{section.Section{}, section.State{X1: 1, X2: 1, Y1: 1, Y2: 1}, 2, 1},
		{filter(1, 1, 1, 0), inputs(1, 0), 4, 1},
		{filter(0, 0, 1, 0), inputs(1, 0), 4, 1},
		{filter(0, 0, 1, 0), inputs(0, 1), 3, 1},
		{turning, outputs(1, 0), 0, 4},
		{turning, outputs(3, -2), 0, 4},
		{turning, section.State{X1: 9, X2: 9, Y1: 3, Y2: -2}, 2, 4},
		{back(filter(1, 0, 0, 0), 1, 0), outputs(5, -5), 0, 2},
		{back(filter(1, 0, 0, 0), 1, 0), outputs(5, 5), 1, 2},
		{back(filter(1, 0, 0, 0), -1, 0), outputs(5, 5), 0, 1},
		{back(filter(1, 0, 0, 0), -1, 0), outputs(5, 6), 1, 1},
		{back(filter(1, 0, 0, 0), 1, 1), outputs(1, 0), 0, 3},
		{back(filter(1, 0, 0, 0), -1, 1), outputs(1, 0), 0, 6},
		// 1, 2, 4 and so on to 32767, which is limited and stays; or turns its sign in each step.
		{back(filter(1, 0, 0, 0), -2, 0), outputs(1, 0), 16, 1},
		{back(filter(1, 0, 0, 0), 2, 0), outputs(1, 0), 16, 2},
		{back(filter(1, 0, 0, 0), -2, 0), outputs(-32767, -32767), 0, 1},
		{back(filter(1, 0, 0, 0), 0, -2), outputs(1, 1), 30, 1},
		// What is rounded down from below 0 does not come to rest.
		{back(filter(0, 0, 0, 15), -1, 0), outputs(32767, 0), 2, 1},
		{back(filter(0, 0, 0, 15), -1, 0), outputs(-1, -1), 0, 1},
		{back(filter(0, 0, 0, 15), 0, -1), outputs(-1, 0), 0, 2},
	} {
		settles(t, x.s, x.x, x.n, x.p)
	}
}

// P5.2: Settle against all states of the first steps.
func TestSettleIsFirst(t *testing.T) {
	next := random(17)
	const most = 40
	cycles := 0
	for _, s := range someSections() {
		x := drawnState(next)
		n, p, found := settled(s, x, most)
		if found {
			settles(t, s, x, n, p)
		} else if n, p, e := section.Settle(s, x); e == api.OK {
			same(t, "a later cycle", n+p > most, true)
		}
		if p > 1 {
			cycles++
		}
	}
	same(t, "enough cycles", cycles > 20, true)
}

// P5.2: n and p are together at most MaxSteps; each step before the cycle is one of n.
func TestSettleLimit(t *testing.T) {
	for _, x := range []struct {
		a1, a2, shift int
		x             section.State
		n, p          int
	}{
		{19868, 16367, 14, outputs(-91, -35), 4095, 1},
		{20133, 16366, 14, outputs(-83, -60), 4096, 1},
		{8349, 16374, 14, outputs(-33, -78), 3964, 134},
		{-664, 16375, 14, outputs(85, 53), 4034, 65},
	} {
		s := back(filter(0, 0, 0, x.shift), x.a1, x.a2)
		for done := range 6 {
			_, at, e := section.From(s, x.x, make([]int, done))
			same(t, "From", e, api.OK)
			if n := x.n - done; n+x.p <= section.MaxSteps {
				settles(t, s, at, n, x.p)
			} else {
				settlesNot(t, s, at, api.ErrLimit)
			}
		}
	}
	// Outputs that go around in a wide circle, and do not meet an earlier state for long.
	settlesNot(t, back(filter(0, 0, 0, 14), -30000, 16384), outputs(30000, 20000), api.ErrLimit)
}

// P5.2: Contractive and Stable at their edges.
func TestStability(t *testing.T) {
	for _, x := range []struct {
		a1, a2, shift         int
		isContractive, stable bool
	}{
		{-2, 0, 2, true, true},
		{0, 0, 0, true, true},
		{1, 0, 0, false, false},
		{0, 1, 0, false, false},
		{0, -1, 0, false, false},
		{-1, 0, 0, false, false},
		{3, 0, 2, true, true},
		{-3, 0, 2, true, true},
		{0, 3, 2, true, true},
		{0, -3, 2, true, true},
		{4, 0, 2, false, false},
		{0, 4, 2, false, false},
		{0, -4, 2, false, false},
		{2, 1, 2, true, true},
		{-2, -1, 2, true, true},
		{2, 2, 2, false, true},
		{-2, 2, 2, false, true},
		{2, -2, 2, false, false},
		{-2, -2, 2, false, false},
		{1, -2, 2, true, true},
		{6, 3, 2, false, true},
		{-6, 3, 2, false, true},
		{7, 3, 2, false, false},
		{-7, 3, 2, false, false},
		{0, -5, 2, false, false},
		{0, 5, 2, false, false},
		{8, 5, 2, false, false},
		{32767, 0, 15, true, true},
		{0, 32767, 15, true, true},
		{0, -32767, 15, true, true},
		{1, -32767, 15, false, false},
		{1, 32767, 15, false, true},
		{32767, 32767, 15, false, true},
		{-32767, 32767, 15, false, true},
		{-32767, -32767, 0, false, false},
		{32767, -1, 15, false, false},
		{32766, -1, 15, true, true},
		{32766, 1, 15, true, true},
		{32767, 1, 15, false, true},
	} {
		for _, s := range []section.Section{filter(0, 0, 0, x.shift), filter(32767, -32767, 32767, x.shift)} {
			want(t, "Contractive", x.isContractive)(section.Contractive(back(s, x.a1, x.a2)))
			want(t, "Stable", x.stable)(section.Stable(back(s, x.a1, x.a2)))
		}
	}
}

// P5.2: a section without rounding is stable if both roots of z z unit + z A1 + A2 lie within the circle.
func TestStableHasRootsWithin(t *testing.T) {
	count := map[bool]int{}
	for _, s := range someSections() {
		unit := float64(int(1) << s.Shift)
		half, product := complex(-float64(s.A1)/unit/2, 0), complex(float64(s.A2)/unit, 0)
		root := cmplx.Sqrt(half*half - product)
		greatest := max(cmplx.Abs(half+root), cmplx.Abs(half-root))
		if math.Abs(greatest-1) < 1e-6 {
			continue // too near to the circle for floats
		}
		want(t, "Stable", greatest < 1)(section.Stable(s))
		count[greatest < 1]++
	}
	same(t, "enough of both sorts", count[true] > 50 && count[false] > 50, true)
}

// P5.2: each contractive section is stable.
func TestContractiveIsStable(t *testing.T) {
	next := random(19)
	for range 500 {
		s := drawnContractive(next)
		want(t, "Contractive", true)(section.Contractive(s))
		want(t, "Stable", true)(section.Stable(s))
	}
}

// P5.2: Bound of the chapter's example, and of others.
func TestBound(t *testing.T) {
	for _, x := range []struct {
		s        section.Section
		input, n int
	}{
		{exampleS, 8, 16},
		{exampleS, 0, 0},
		{exampleS, 1, 2},
		{exampleS, 32767, 65534},
		{filter(1, 2, 1, 2), 8, 8},
		{filter(-1, 2, -1, 2), 8, 8},
		{filter(1, 0, 0, 2), 8, 2},
		{filter(1, 0, 0, 2), 9, 3},
		{filter(1, 0, 0, 2), 11, 3},
		{filter(1, 0, 0, 2), 12, 3},
		{filter(1, 0, 0, 2), 13, 4},
		{filter(1, 0, 0, 15), 1, 1},
		{filter(0, 0, 0, 15), 32767, 0},
		{back(filter(1, 1, 1, 3), 2, -3), 1, 1},
		{back(filter(1, 1, -1, 3), -2, 3), 2, 2},
		{back(filter(32767, -32767, 32767, 0), 0, 0), 32767, 3 * 32767 * 32767},
		{back(filter(-32767, -32767, -32767, 15), 32766, -1), 32767, 3 * 32767 * 32767},
		{back(filter(-32767, -32767, -32767, 15), 32766, 0), 32767, (3*32767*32767 + 1) / 2},
	} {
		want(t, "Bound", x.n)(section.Bound(x.s, x.input))
	}
	next := random(23)
	for range 500 {
		s, input := drawnContractive(next), next(0, section.MaxValue)
		sum := func(l ...int) int64 {
			all := 0.0
			for _, n := range l {
				all += math.Abs(float64(n))
			}
			return int64(all)
		}
		quotient := big.NewRat(sum(s.B0, s.B1, s.B2)*int64(input), 1<<s.Shift-sum(s.A1, s.A2))
		up := new(big.Int).Div(new(big.Int).Neg(quotient.Num()), quotient.Denom())
		want(t, "Bound", int(-up.Int64()))(section.Bound(s, input))
	}
}

// P5.2: the errors, from left to right, and nothing beside them.
func TestWrongRest(t *testing.T) {
	loose := back(filter(1, 1, 1, 2), 2, 2)
	for _, s := range wrongSections() {
		settlesNot(t, s, section.State{}, api.ErrRange)
		fails[bool](t, "Contractive", api.ErrRange)(section.Contractive(s))
		fails[bool](t, "Stable", api.ErrRange)(section.Stable(s))
		fails[int](t, "Bound", api.ErrRange)(section.Bound(s, 1))
	}
	for _, x := range wrongStates() {
		settlesNot(t, exampleS, x, api.ErrRange)
	}
	for _, n := range append(wrongValues, -1, -32767) {
		fails[int](t, "Bound", api.ErrRange)(section.Bound(exampleS, n))
		fails[int](t, "Bound", api.ErrRange)(section.Bound(loose, n))
	}
	for _, s := range []section.Section{loose, back(filter(0, 0, 0, 0), 1, 0), back(filter(0, 0, 0, 15), -32767, -1), back(filter(1, 0, 0, 2), 0, -4)} {
		for _, n := range []int{0, 1, 32767} {
			fails[int](t, "Bound", api.ErrUnstable)(section.Bound(s, n))
		}
	}
}
