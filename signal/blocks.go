package signal

import (
	"woofer/api"
	"woofer/common"
)

// maxPart is the greatest part of a spectrum: four samples may add up to it.
const maxPart = Size * api.MaxSample

// Transform returns the spectrum of a block.
func Transform(b Block) (Spectrum, api.Errno) {
	if e := checkSamples(b[:]); e != api.OK {
		return Spectrum{}, e
	}
	var values [Size]complex64
	for n, x := range b {
		values[n] = complex(x, 0)
	}
	// -i is the third power of i.
	return turned(values, 3), api.OK
}

// Back returns the block of a spectrum.
func Back(s Spectrum) (Block, api.Errno) {
	for _, z := range s {
		if e := checkValue(z); e != api.OK {
			return Block{}, e
		}
	}
	var b, imaginary Block
	for n, z := range turned(s, 1) {
		b[n], imaginary[n] = real(z)/Size, imag(z)/Size
	}
	// The block is real exactly if the values 0 and 2 are, and the value 3 is the conjugate of the value 1.
	if imaginary != (Block{}) {
		return Block{}, api.ErrConflict
	}
	if e := checkSamples(b[:]); e != api.OK {
		return Block{}, e
	}
	return b, api.OK
}

// turned returns for each n the sum over k of the value k times i to the power of turn k n.
func turned(values [Size]complex64, turn int) [Size]complex64 {
	powers := [Size]complex64{1, 1i, -1, -1i}
	var sums [Size]complex64
	for n := range sums {
		for k, z := range values {
			sums[n] += z * powers[turn*k*n%Size]
		}
	}
	return sums
}

// checkValue returns the error of a value of a spectrum, or OK.
func checkValue(z complex64) api.Errno {
	re, im := checkSteps(real(z), maxPart), checkSteps(imag(z), maxPart)
	return common.First(common.When(im == api.ErrForm, im), re, im)
}

// Energy returns the sum of the squares of samples.
func Energy(l []float32) (float64, api.Errno) {
	if e := checkSamples(l); e != api.OK {
		return 0, e
	}
	sum := 0.0
	for _, x := range l {
		sum += float64(x) * float64(x)
	}
	return sum, api.OK
}
