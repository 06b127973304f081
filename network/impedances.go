package network

import (
	"slices"

	"woofer/api"
	"woofer/common"
)

// fine is how many steps a part of a number has from 0 to 1.
const fine = 1 << 16

// Input returns the input impedance of a ladder with an open end.
func Input(l []Element, w int) (Pair, api.Errno) {
	m, e := Chain(l, w)
	return quotient(m[entryA], m[entryC], e)
}

// Shorted returns the input impedance of a ladder with a shorted end.
func Shorted(l []Element, w int) (Pair, api.Errno) {
	m, e := Chain(l, w)
	return quotient(m[entryB], m[entryD], e)
}

// Transfer returns the voltage at the open end of a ladder, divided by that at its begin.
func Transfer(l []Element, w int) (Pair, api.Errno) {
	m, d, e := chained(l, w)
	return quotient(d, m[entryA], e)
}

// quotient returns the quotient of two complex integers that were computed, or the error e, or that of a pole.
func quotient(num, den api.Gauss, e api.Errno) (Pair, api.Errno) {
	e = common.First(e, common.When(den == api.Gauss{}, api.ErrPole))
	if e != api.OK {
		return Pair{}, e
	}
	return Pair{Num: num, Den: den}, api.OK
}

// Level returns the squared absolute value of the transfer.
func Level(l []Element, w int) (api.Ratio, api.Errno) {
	p, e := Transfer(l, w)
	if e != api.OK {
		return api.Ratio{}, e
	}
	return common.Lowest(api.Ratio{Num: common.Square(p.Num), Den: common.Square(p.Den)}), api.OK
}

// Power returns the numerator of the real part of the input impedance.
func Power(l []Element, w int) (int, api.Errno) {
	// Beside an error the matrix, and so the power, is 0.
	m, e := Chain(l, w)
	return common.Times(m[entryA], common.Conjugate(m[entryC])).Re, e
}

// Lossless reports whether no element has losses.
func Lossless(l []Element) (bool, api.Errno) {
	if e := CheckLadder(l); e != api.OK {
		return false, e
	}
	return !slices.ContainsFunc(l, hasLosses), api.OK
}

func hasLosses(x Element) bool {
	return x.A != 0
}

// Number returns a quotient as a complex number.
func Number(p Pair) (complex128, api.Errno) {
	if e := checkQuotient(p); e != api.OK {
		return 0, e
	}
	z, n := common.Times(p.Num, common.Conjugate(p.Den)), common.Square(p.Den)
	re, im := z.Re*fine, z.Im*fine
	if re%n != 0 || im%n != 0 {
		return 0, api.ErrForm
	}
	return complex(float64(re/n)/fine, float64(im/n)/fine), api.OK
}
