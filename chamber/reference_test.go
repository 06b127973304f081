package chamber_test

import (
	"math"
	"math/big"
	"math/bits"
	"math/cmplx"

	"woofer/signal"
)

// pairOf returns the complementary pair of a length: the sign of an element is that of how often two ones stand side by
// side in its index, and the second sequence has the opposites in its second half.
func pairOf(n int) ([]int, []int) {
	a, b := make([]int, n), make([]int, n)
	for i := range n {
		a[i] = 1 - 2*(bits.OnesCount(uint(i&(i>>1)))%2)
		b[i] = a[i]
		if n > 1 && i >= n/2 {
			b[i] = -a[i]
		}
	}
	return a, b
}

// productOf returns the convolution of two lists: as often as an element of a says, b behind so many zeros.
func productOf(a, b []int) []int {
	if len(a) == 0 || len(b) == 0 {
		return nil
	}
	out := make([]int, len(a)+len(b)-1)
	for at, factor := range a {
		for i, x := range b {
			out[at+i] += factor * x
		}
	}
	return out
}

// nearest returns the integer that is nearest to a quotient, the greater one of two.
func nearest(num, den int) int {
	low := floor(num, den)
	// Twice the distance to the lower one, in parts of den.
	if 2*(num-low*den) >= den {
		return low + 1
	}
	return low
}

// floor returns a quotient, rounded down; den is above 0.
func floor(num, den int) int {
	return int(new(big.Int).Div(big.NewInt(int64(num)), big.NewInt(int64(den))).Int64())
}

// estimateOf returns the estimate from two answers.
func estimateOf(a, b []int, n int) []int {
	p, q := pairOf(n)
	var h []int
	for j := range max(len(a)-n+1, 0) {
		sum := 0
		for i := range n {
			sum += p[i]*a[i+j] + q[i]*b[i+j]
		}
		h = append(h, nearest(sum, 2*n))
	}
	return h
}

// long divides as polynomials are divided by hand, lowest powers first, in rational numbers. It returns the quotient and
// what is left.
func long(y, a []int) (quotient, rest []*big.Rat) {
	for _, x := range y {
		rest = append(rest, big.NewRat(int64(x), 1))
	}
	for k := range max(len(y)-len(a)+1, 0) {
		q := new(big.Rat).Quo(rest[k], big.NewRat(int64(a[0]), 1))
		quotient = append(quotient, q)
		for i, x := range a {
			rest[k+i].Sub(rest[k+i], new(big.Rat).Mul(q, big.NewRat(int64(x), 1)))
		}
	}
	return quotient, rest
}

// energy returns the sum of squares, as a big integer.
func energy(l []int) *big.Int {
	sum := new(big.Int)
	for _, x := range l {
		square := big.NewInt(int64(x))
		sum.Add(sum, square.Mul(square, square))
	}
	return sum
}

// spectrumOf returns the spectrum of a block, from waves as complex numbers.
func spectrumOf(b signal.Block) [signal.Size]complex128 {
	var s [signal.Size]complex128
	for k := range s {
		for n, x := range b {
			s[k] += cmplx.Rect(float64(x), -math.Pi/2*float64(k*n))
		}
		s[k] = complex(sixteenths(real(s[k])), sixteenths(imag(s[k])))
	}
	return s
}

// sixteenths rounds to a multiple of 1/16. It returns no -0.
func sixteenths(x float64) float64 {
	return math.Round(x*16)/16 + 0
}

// levelOf returns the squared absolute value of a complex number whose parts are multiples of 1/16.
func levelOf(z complex128) float64 {
	return math.Pow(real(z), 2) + math.Pow(imag(z), 2)
}
