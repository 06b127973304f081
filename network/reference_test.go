package network_test

import (
	"math/big"

	"woofer/api"
	"woofer/network"
)

// number is a complex number with rational parts.
type number struct {
	re, im *big.Rat
}

func whole(re, im int) number {
	return number{big.NewRat(int64(re), 1), big.NewRat(int64(im), 1)}
}

func (a number) plus(b number) number {
	return number{new(big.Rat).Add(a.re, b.re), new(big.Rat).Add(a.im, b.im)}
}

func (a number) times(b number) number {
	re := new(big.Rat).Sub(new(big.Rat).Mul(a.re, b.re), new(big.Rat).Mul(a.im, b.im))
	im := new(big.Rat).Add(new(big.Rat).Mul(a.re, b.im), new(big.Rat).Mul(a.im, b.re))
	return number{re, im}
}

func (a number) square() *big.Rat {
	return a.times(number{a.re, new(big.Rat).Neg(a.im)}).re
}

func (a number) over(b number) number {
	factor := number{new(big.Rat).Inv(b.square()), new(big.Rat)}
	return a.times(number{b.re, new(big.Rat).Neg(b.im)}).times(factor)
}

// gauss returns a number whose parts are integers.
func (a number) gauss() api.Gauss {
	if !a.re.IsInt() || !a.im.IsInt() {
		panic("no complex integer")
	}
	return g(int(a.re.Num().Int64()), int(a.im.Num().Int64()))
}

// circuit returns the voltage and the current at the begin of a ladder that has these at its end: a walk along the
// elements from the end, by the laws of Ohm and Kirchhoff, without matrices.
func circuit(l []network.Element, w int, voltage, current number) (number, number) {
	for i := len(l) - 1; i >= 0; i-- {
		v := whole(l[i].A, w*l[i].B)
		switch l[i].Kind {
		case "series":
			voltage = voltage.plus(current.times(v))
		case "shunt":
			current = current.plus(voltage.times(v))
		case "block":
			voltage = voltage.plus(current.over(v))
		case "trap":
			current = current.plus(voltage.over(v))
		}
	}
	return voltage, current
}

// expected returns the chain matrix and the divisor of a ladder by the circuit.
func expected(l []network.Element, w int) (network.Matrix, api.Gauss) {
	divisor := whole(1, 0)
	for _, x := range l {
		if x.Kind == "block" || x.Kind == "trap" {
			divisor = divisor.times(whole(x.A, w*x.B))
		}
	}
	a, c := circuit(l, w, whole(1, 0), whole(0, 0))
	b, d := circuit(l, w, whole(0, 0), whole(1, 0))
	var m network.Matrix
	for i, x := range []number{a, b, c, d} {
		m[i] = x.times(divisor).gauss()
	}
	return m, divisor.gauss()
}

// rational returns a ratio as a number that may be compared.
func rational(x api.Ratio) *big.Rat {
	return big.NewRat(int64(x.Num), int64(x.Den))
}

// square returns the squared absolute value of a complex integer.
func square(z api.Gauss) *big.Rat {
	return whole(z.Re, z.Im).square()
}

// isLevel reports whether a ratio is in lowest terms the given number.
func isLevel(x api.Ratio, wanted *big.Rat) bool {
	return wanted.Num().Cmp(big.NewInt(int64(x.Num))) == 0 && wanted.Denom().Cmp(big.NewInt(int64(x.Den))) == 0
}
