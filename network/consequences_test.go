package network_test

import (
	"math"
	"testing"

	"woofer/api"
	"woofer/network"
)

// times returns the product of two complex integers.
func times(a, b api.Gauss) api.Gauss {
	return whole(a.Re, a.Im).times(whole(b.Re, b.Im)).gauss()
}

// small reports whether a matrix may be an argument.
func small(m network.Matrix) bool {
	for _, z := range m {
		if max(z.Re, -z.Re, z.Im, -z.Im) > 30000 {
			return false
		}
	}
	return true
}

// P2.6: the determinant of the matrix is the square of the divisor.
func TestDeterminantIsSquare(t *testing.T) {
	checked := 0
	for _, l := range ladders() {
		for w := 1; w <= network.MaxW; w++ {
			m := ok[network.Matrix](t)(network.Chain(l, w))
			if !small(m) {
				continue
			}
			d := ok[api.Gauss](t)(network.Divisor(l, w))
			equal(t, "Determinant", ok[api.Gauss](t)(network.Determinant(m)), times(d, d))
			checked++
		}
	}
	equal(t, "determinants", checked > 2000, true)
}

// P2.6: ladders in a row multiply.
func TestLaddersMultiply(t *testing.T) {
	checked := 0
	list := ladders()
	for i, a := range list {
		b := list[(7*i+13)%len(list)]
		l, e := network.Join(a, b)
		if len(a)+len(b) > network.MaxElements {
			failsList(t, "Join", l, e, api.ErrMany)
			continue
		}
		for w := 1; w <= network.MaxW; w++ {
			x, y := ok[network.Matrix](t)(network.Chain(a, w)), ok[network.Matrix](t)(network.Chain(b, w))
			d := times(ok[api.Gauss](t)(network.Divisor(a, w)), ok[api.Gauss](t)(network.Divisor(b, w)))
			equal(t, "Divisor", ok[api.Gauss](t)(network.Divisor(l, w)), d)
			if small(x) && small(y) {
				equal(t, "Chain", ok[network.Matrix](t)(network.Chain(l, w)), ok[network.Matrix](t)(network.Product(x, y)))
				checked++
			}
		}
	}
	equal(t, "products", checked > 1000, true)
}

// P2.6: a ladder that is reversed has A and D exchanged, a dual one A and D, and B and C.
func TestReversedAndDual(t *testing.T) {
	for _, l := range ladders() {
		reversed := ok[[]network.Element](t)(network.Reverse(l))
		dual := ok[[]network.Element](t)(network.Dual(l))
		equalList(t, "reversed twice", ok[[]network.Element](t)(network.Reverse(reversed)), l)
		equalList(t, "dual twice", ok[[]network.Element](t)(network.Dual(dual)), l)
		for w := 1; w <= network.MaxW; w++ {
			m := ok[network.Matrix](t)(network.Chain(l, w))
			equal(t, "reversed", ok[network.Matrix](t)(network.Chain(reversed, w)), network.Matrix{m[3], m[1], m[2], m[0]})
			equal(t, "dual", ok[network.Matrix](t)(network.Chain(dual, w)), network.Matrix{m[3], m[2], m[1], m[0]})
			d := ok[api.Gauss](t)(network.Divisor(l, w))
			equal(t, "divisor of the reversed one", ok[api.Gauss](t)(network.Divisor(reversed, w)), d)
			equal(t, "divisor of the dual one", ok[api.Gauss](t)(network.Divisor(dual, w)), d)
		}
	}
}

// P2.6: no ladder gives power, and a lossless one takes none.
func TestNoPower(t *testing.T) {
	takers := 0
	for _, l := range ladders() {
		lossless := ok[bool](t)(network.Lossless(l))
		for w := 1; w <= network.MaxW; w++ {
			power := ok[int](t)(network.Power(l, w))
			if power < 0 || lossless && power != 0 {
				t.Errorf("%v at %v: power %v, lossless %v", l, w, power, lossless)
			}
			if power > 0 {
				takers++
			}
		}
	}
	equal(t, "ladders that take power", takers > 1000, true)
}

// P2.6: the values of the polynomials are the entries and the divisor.
func TestPolynomialsAreEntries(t *testing.T) {
	for _, l := range ladders() {
		entries, divisor, e := network.Polynomials(l)
		equal(t, "Polynomials", e, api.OK)
		for w := 1; w <= network.MaxW; w++ {
			m := ok[network.Matrix](t)(network.Chain(l, w))
			for i, p := range entries {
				equal(t, "entry", ok[api.Gauss](t)(network.Value(p, w)), m[i])
			}
			equal(t, "divisor", ok[api.Gauss](t)(network.Value(divisor, w)), ok[api.Gauss](t)(network.Divisor(l, w)))
		}
	}
}

// P2.6: the level of a ladder with a resistor more in parallel at its begin is the same.
func TestLevelOfParallel(t *testing.T) {
	for i, l := range ladders() {
		if len(l) == network.MaxElements {
			continue
		}
		more := ok[[]network.Element](t)(network.Join(row(shunt(i%network.MaxPart+1, 0)), l))
		for w := 1; w <= network.MaxW; w++ {
			x, e := network.Level(l, w)
			y, f := network.Level(more, w)
			equal(t, "Level", y, x)
			equal(t, "Level", f, e)
		}
	}
}

// P2.6: a ladder is parsed as it was printed.
func TestLaddersComeBack(t *testing.T) {
	for _, l := range ladders() {
		s := ok[string](t)(network.Print(l))
		equalList(t, s, ok[[]network.Element](t)(network.Parse(s)), l)
	}
}

// P1: no function panics, whatever its arguments are.
func TestNothingPanics(t *testing.T) {
	numbers := []int{math.MinInt, math.MinInt32, -30001, -1, 0, 1, 2, 8, 9, 30000, math.MaxInt32, math.MaxInt}
	for _, a := range numbers {
		network.Value(numbers, a)
		network.Value(nil, a)
		for _, b := range numbers {
			network.Value([]int{a, b}, 8)
			network.Below(filter(), 1, 8, ratio(a, b))
			network.Below(nil, a, b, ratio(b, a))
			network.Peak(filter(), a, b)
			network.Table(nil, a, b)
			network.Number(pair(g(a, b), g(b, a)))
			m := network.Matrix{g(a, b), g(b, a), g(a, a), g(b, b)}
			network.Product(m, m)
			network.Determinant(m)
			for _, kind := range append(network.Kinds(), "") {
				l := []network.Element{{Kind: kind, A: a, B: b}}
				network.CheckLadder(l)
				network.Level(l, b)
				network.Power(l, a)
				network.Polynomials(l)
				network.Print(l)
				network.Dual(l)
			}
		}
	}
}
