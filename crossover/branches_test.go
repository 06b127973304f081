package crossover_test

import (
	"math/big"
	"slices"
	"testing"

	"woofer/api"
	"woofer/crossover"
	"woofer/network"
)

func pair(num, den api.Gauss) network.Pair {
	return network.Pair{Num: num, Den: den}
}

// g is re + i im.
func g(re, im int) api.Gauss {
	return api.Gauss{Re: re, Im: im}
}

// The branches of the chapter's example.
func low() []network.Element  { return row(series(1, 0), shunt(0, 1)) }
func high() []network.Element { return row(block(0, 1), shunt(1, 0)) }

// pole returns a branch with a pole at the frequency 1.
func pole() []network.Element { return row(series(0, 1), shunt(0, 1)) }

// P4.4: Sum and SumLevel of the chapter's example, and of others.
func TestSum(t *testing.T) {
	for _, x := range []struct {
		a, b     []network.Element
		w        int
		inverted bool
		sum      network.Pair
		level    api.Ratio
	}{
		{low(), high(), 1, false, pair(g(0, 2), g(0, 2)), ratio(1, 1)},
		{low(), high(), 1, true, pair(g(2, 0), g(0, 2)), ratio(1, 1)},
		{high(), low(), 1, true, pair(g(-2, 0), g(0, 2)), ratio(1, 1)},
		{nil, nil, 8, false, pair(g(2, 0), g(1, 0)), ratio(4, 1)},
		{nil, nil, 8, true, pair(g(0, 0), g(1, 0)), ratio(0, 1)},
		{low(), nil, 2, false, pair(g(2, 2), g(1, 2)), ratio(8, 5)},
		{low(), nil, 2, true, pair(g(0, -2), g(1, 2)), ratio(4, 5)},
		{nil, high(), 2, true, pair(g(1, 0), g(1, 2)), ratio(1, 5)},
		// Both are not reduced: the quotient of a capacitor alone is i / i.
		{row(block(0, 1)), row(block(0, 1)), 1, false, pair(g(-2, 0), g(-1, 0)), ratio(4, 1)},
		{row(trap(2, 0)), row(trap(0, 1), shunt(0, 0)), 1, true, pair(g(0, 0), g(0, 2)), ratio(0, 1)},
		{pole(), nil, 2, false, pair(g(-2, 0), g(-3, 0)), ratio(4, 9)},
	} {
		want(t, "Sum", x.sum)(crossover.Sum(x.a, x.b, x.w, x.inverted))
		want(t, "SumLevel", x.level)(crossover.SumLevel(x.a, x.b, x.w, x.inverted))
	}
}

// P4.4: Crossing of the chapter's example, and of others.
func TestCrossing(t *testing.T) {
	for _, x := range []struct {
		a, b     []network.Element
		from, to int
		w        int // 0 if there is none
	}{
		{low(), high(), 1, 3, 1},
		{low(), high(), 2, 3, 2},
		{low(), high(), 8, 8, 8},
		{high(), low(), 1, 8, 1},
		{high(), low(), 2, 8, 0},
		{nil, nil, 3, 8, 3},
		{nil, low(), 1, 8, 0},
		{low(), nil, 1, 8, 1},
		// 1 / (1 + w w), and 1/16 or 1/9.
		{low(), row(series(3, 0), shunt(1, 0)), 1, 8, 4},
		{low(), row(series(2, 0), shunt(1, 0)), 1, 8, 3},
		{low(), row(series(2, 0), shunt(1, 0)), 1, 2, 0},
		// 1 / (1 + w w), and w w / (9 + w w) or w w / (64 + 81 w w).
		{low(), row(block(0, 1), shunt(3, 0)), 1, 8, 2},
		{low(), row(block(0, 1), shunt(8, 8)), 1, 8, 0},
		{pole(), nil, 2, 8, 2},
	} {
		w, e := crossover.Crossing(x.a, x.b, x.from, x.to)
		if x.w == 0 {
			fails[int](t, "Crossing", api.ErrNone)(w, e)
			continue
		}
		want(t, "Crossing", x.w)(w, e)
	}
}

// P4.4: poles; those behind the crossing, too.
func TestBranchPoles(t *testing.T) {
	late := row(block(0, 1), trap(0, 1)) // at 1, as well
	for _, l := range [][]network.Element{pole(), late} {
		for _, other := range [][]network.Element{nil, low(), high(), pole()} {
			for _, inverted := range []bool{false, true} {
				fails[network.Pair](t, "Sum", api.ErrPole)(crossover.Sum(l, other, 1, inverted))
				fails[network.Pair](t, "Sum", api.ErrPole)(crossover.Sum(other, l, 1, inverted))
				fails[api.Ratio](t, "SumLevel", api.ErrPole)(crossover.SumLevel(l, other, 1, inverted))
				fails[api.Ratio](t, "SumLevel", api.ErrPole)(crossover.SumLevel(other, l, 1, inverted))
			}
			for _, to := range []int{1, 2, 8} {
				fails[int](t, "Crossing", api.ErrPole)(crossover.Crossing(l, other, 1, to))
				fails[int](t, "Crossing", api.ErrPole)(crossover.Crossing(other, l, 1, to))
			}
		}
	}
}

// wrongBranch is a branch with its error.
type wrongBranch struct {
	l []network.Element
	e api.Errno
}

func wrongBranches() []wrongBranch {
	wrong := network.Element{Kind: "coil", A: -1, B: 9}
	return []wrongBranch{
		{row(wrong), api.ErrKind},
		{row(series(9, 0)), api.ErrRange},
		{row(shunt(0, -1)), api.ErrRange},
		{row(series(1, 1), trap(0, 0)), api.ErrZero},
		{slices.Repeat(row(series(0, 0)), 3), api.ErrMany},
		{slices.Repeat(row(series(0, 0)), 5), api.ErrMany},
		{slices.Repeat(row(wrong), 6), api.ErrMany},
		{slices.Repeat(row(wrong), 3), api.ErrKind},
		{row(series(0, 0), series(0, 0), trap(0, 0)), api.ErrZero},
	}
}

// failsBranches requires an error of all functions of two branches.
func failsBranches(t *testing.T, a, b []network.Element, from, to int, e api.Errno) {
	t.Helper()
	fails[network.Pair](t, "Sum", e)(crossover.Sum(a, b, from, false))
	fails[api.Ratio](t, "SumLevel", e)(crossover.SumLevel(a, b, from, true))
	fails[int](t, "Crossing", e)(crossover.Crossing(a, b, from, to))
}

// P4.4: the errors of arguments, from left to right; they come before poles.
func TestWrongBranches(t *testing.T) {
	for i, x := range wrongBranches() {
		failsBranches(t, x.l, nil, 1, 1, x.e)
		failsBranches(t, pole(), x.l, 1, 1, x.e)
		failsBranches(t, x.l, pole(), 0, 1, x.e)
		failsBranches(t, pole(), x.l, 0, -1, x.e)
		failsBranches(t, x.l, wrongBranches()[(i+1)%len(wrongBranches())].l, 9, 1, x.e)
	}
	for _, w := range wrongFrequencies {
		failsBranches(t, low(), high(), w, w, api.ErrRange)
		failsBranches(t, pole(), pole(), w, 8, api.ErrRange)
		fails[int](t, "Crossing", api.ErrRange)(crossover.Crossing(low(), high(), 1, w))
		fails[int](t, "Crossing", api.ErrRange)(crossover.Crossing(pole(), high(), 8, w))
	}
	for _, x := range [][2]int{{2, 1}, {8, 1}, {8, 7}} {
		fails[int](t, "Crossing", api.ErrOrder)(crossover.Crossing(low(), high(), x[0], x[1]))
		fails[int](t, "Crossing", api.ErrOrder)(crossover.Crossing(pole(), pole(), x[0], x[1]))
	}
}

// someBranches returns branches of all kinds, those with the greatest numbers included.
func someBranches() [][]network.Element {
	l := [][]network.Element{nil, low(), high(), pole(), row(trap(0, 1), series(1, 0))}
	for _, k := range network.Kinds() {
		greatest := network.Element{Kind: k, A: 8, B: 8}
		l = append(l, row(greatest), row(greatest, greatest), row(greatest, shunt(8, 8)), row(series(8, 8), greatest))
	}
	next := random(37)
	for range 30 {
		l = append(l, row(drawnPart(next, "a").Element), row(drawnPart(next, "a").Element, drawnPart(next, "b").Element))
	}
	return l
}

// complexOf returns a complex integer as a number; no number of a sum of branches is too large for it.
func complexOf(z api.Gauss) complex128 {
	return complex(float64(z.Re), float64(z.Im))
}

// gauss returns a number whose parts are integers.
func gauss(z complex128) api.Gauss {
	return g(int(real(z)), int(imag(z)))
}

// P4.4: Sum and SumLevel against numbers.
func TestSumsAreNumbers(t *testing.T) {
	for i, a := range someBranches() {
		for k, b := range someBranches() {
			w := (3*i+5*k)%network.MaxW + 1
			m, n := of[network.Matrix](t)(network.Chain(a, w)), of[network.Matrix](t)(network.Chain(b, w))
			d1, d2 := of[api.Gauss](t)(network.Divisor(a, w)), of[api.Gauss](t)(network.Divisor(b, w))
			first, second := complexOf(d1)*complexOf(n[0]), complexOf(d2)*complexOf(m[0])
			den := complexOf(m[0]) * complexOf(n[0])
			if den == 0 {
				fails[network.Pair](t, "Sum", api.ErrPole)(crossover.Sum(a, b, w, false))
				continue
			}
			want(t, "Sum", pair(gauss(first+second), gauss(den)))(crossover.Sum(a, b, w, false))
			want(t, "Sum, inverted", pair(gauss(first-second), gauss(den)))(crossover.Sum(a, b, w, true))
			for inverted, num := range map[bool]api.Gauss{false: gauss(first + second), true: gauss(first - second)} {
				q := gauss(den)
				level := big.NewRat(int64(num.Re*num.Re+num.Im*num.Im), int64(q.Re*q.Re+q.Im*q.Im))
				same(t, "SumLevel", of[api.Ratio](t)(crossover.SumLevel(a, b, w, inverted)), text(level))
			}
		}
	}
}

// crossingOf returns the first frequency at which the first level is not above the second one, or the error.
func crossingOf(a, b []network.Element, from, to int) (int, api.Errno) {
	first, e := 0, api.ErrNone
	for w := to; w >= from; w-- {
		x, y := levelOf(a, w), levelOf(b, w)
		if x == nil || y == nil {
			return 0, api.ErrPole
		}
		if x.Cmp(y) <= 0 {
			first, e = w, api.OK
		}
	}
	return first, e
}

// P4.4: Crossing against all levels.
func TestCrossingsOfLevels(t *testing.T) {
	later := 0
	for i, a := range someBranches() {
		for k, b := range someBranches() {
			from := (i+2*k)%network.MaxW + 1
			for _, span := range [][2]int{{1, 8}, {from, from + (i+k)%(network.MaxW+1-from)}} {
				w, e := crossingOf(a, b, span[0], span[1])
				got, gotE := crossover.Crossing(a, b, span[0], span[1])
				same(t, "Crossing", []any{got, gotE}, []any{w, e})
				if w > span[0] {
					later++
				}
			}
		}
	}
	same(t, "enough crossings behind the first frequency", later > 50, true)
}
