package common

import (
	"cmp"
	"math/bits"

	"woofer/api"
)

// Plus returns the sum of two complex integers.
func Plus(a, b api.Gauss) api.Gauss {
	return api.Gauss{Re: a.Re + b.Re, Im: a.Im + b.Im}
}

// Minus returns the difference of two complex integers.
func Minus(a, b api.Gauss) api.Gauss {
	return api.Gauss{Re: a.Re - b.Re, Im: a.Im - b.Im}
}

// Times returns the product of two complex integers.
func Times(a, b api.Gauss) api.Gauss {
	return api.Gauss{Re: a.Re*b.Re - a.Im*b.Im, Im: a.Re*b.Im + a.Im*b.Re}
}

// Conjugate returns the conjugate of a complex integer.
func Conjugate(z api.Gauss) api.Gauss {
	return api.Gauss{Re: z.Re, Im: -z.Im}
}

// Square returns the squared absolute value of a complex integer.
func Square(z api.Gauss) int {
	return z.Re*z.Re + z.Im*z.Im
}

// Absolute returns the absolute value of an integer.
func Absolute(x int) int {
	return max(x, -x)
}

// Lowest returns a ratio whose denominator is above 0 in lowest terms.
func Lowest(x api.Ratio) api.Ratio {
	a, b := x.Den, Absolute(x.Num)
	for b != 0 {
		a, b = b, a%b
	}
	return api.Ratio{Num: x.Num / a, Den: x.Den / a}
}

// Compare compares two ratios that are not below 0.
func Compare(x, y api.Ratio) int {
	// The products may be beyond 64 bits.
	xHigh, xLow := bits.Mul64(uint64(x.Num), uint64(y.Den))
	yHigh, yLow := bits.Mul64(uint64(y.Num), uint64(x.Den))
	return cmp.Or(cmp.Compare(xHigh, yHigh), cmp.Compare(xLow, yLow))
}
