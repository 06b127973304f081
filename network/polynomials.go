package network

import (
	"slices"

	"woofer/api"
	"woofer/common"
)

// powers has the powers of i.
var powers = [4]api.Gauss{{Re: 1}, {Im: 1}, {Re: -1}, {Im: -1}}

// polynomial has the coefficients of 1, s, s squared and so on, with zeros at its end: no ladder has more.
type polynomial [MaxDegree + 1]int

// polynomials returns the polynomials of s.
func polynomials() numbers[polynomial] {
	return numbers[polynomial]{
		one:   polynomial{1},
		value: func(x Element) polynomial { return polynomial{x.A, x.B} },
		plus:  polynomial.plus,
		times: polynomial.times,
	}
}

func (p polynomial) plus(q polynomial) polynomial {
	for i, c := range q {
		p[i] += c
	}
	return p
}

// times returns the product of two polynomials whose degrees are together at most MaxDegree.
func (p polynomial) times(q polynomial) polynomial {
	var out polynomial
	for i, c := range p {
		for k := range out[i:] {
			out[i+k] += c * q[k]
		}
	}
	return out
}

// coefficients returns the coefficients without the zeros at the end.
func (p polynomial) coefficients() []int {
	n := len(p)
	for n > 0 && p[n-1] == 0 {
		n--
	}
	return slices.Clone(p[:n])
}

// Polynomials returns the entries of the chain matrix as polynomials, and the divisor.
func Polynomials(l []Element) ([4][]int, []int, api.Errno) {
	if e := CheckLadder(l); e != api.OK {
		return [4][]int{}, nil, e
	}
	matrix, divisor := polynomials().chain(l)
	var entries [4][]int
	for i, p := range matrix {
		entries[i] = p.coefficients()
	}
	return entries, divisor.coefficients(), api.OK
}

// Value returns the value of a polynomial at a frequency.
func Value(p []int, w int) (api.Gauss, api.Errno) {
	if e := common.First(checkPolynomial(p), checkFrequency(w)); e != api.OK {
		return api.Gauss{}, e
	}
	var sum api.Gauss
	size := 1 // the power of w
	for k, c := range p {
		term := common.Times(api.Gauss{Re: c * size}, powers[k%len(powers)])
		sum = common.Plus(sum, term)
		size *= w
	}
	return sum, api.OK
}

// checkPolynomial returns the first error of a polynomial, or OK.
func checkPolynomial(p []int) api.Errno {
	if len(p) > MaxDegree+1 {
		return api.ErrMany
	}
	if len(p) > 0 && p[len(p)-1] == 0 {
		return api.ErrForm
	}
	return common.When(slices.ContainsFunc(p, isBeyond), api.ErrRange)
}

// isBeyond reports whether an integer is none of a polynomial.
func isBeyond(c int) bool {
	return !common.Within(c, -api.MaxNumber, api.MaxNumber)
}
