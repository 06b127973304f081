package chamber

import (
	"slices"

	"woofer/api"
	"woofer/common"
	"woofer/signal"
)

// power returns the squared absolute value of a value of a spectrum, or of a difference of two. A float32 could not hold it.
func power(z complex64) float64 {
	re, im := float64(real(z)), float64(imag(z))
	return re*re + im*im
}

// Merge returns the merged spectrum of two blocks, and the mismatch.
func Merge(near, far signal.Block, at int) (signal.Spectrum, float64, api.Errno) {
	low, errorOfNear := signal.Transform(near)
	high, errorOfFar := signal.Transform(far)
	if e := common.First(errorOfNear, errorOfFar, common.CheckRange(at, 1, 2)); e != api.OK {
		return signal.Spectrum{}, 0, e
	}
	merged := high
	for k, z := range low {
		// The value 3 is the conjugate of the value 1.
		if min(k, signal.Size-k) < at {
			merged[k] = z
		}
	}
	return merged, power(low[at] - high[at]), api.OK
}

// Orders returns the orders of samples.
func Orders(l []float32) ([3]float64, api.Errno) {
	e := common.First(
		common.When(len(l) > MaxBlock, api.ErrMany),
		common.When(len(l)%signal.Size != 0, api.ErrShape),
	)
	if e != api.OK {
		return [3]float64{}, e
	}
	var orders [3]float64
	for samples := range slices.Chunk(l, signal.Size) {
		block := signal.Block(samples)
		if block == (signal.Block{}) {
			continue // silence adds nothing
		}
		spectrum, e := signal.Transform(block)
		if e != api.OK {
			return [3]float64{}, e
		}
		for k := range orders {
			orders[k] += power(spectrum[k])
		}
	}
	return orders, api.OK
}

// Distortion returns the distortion of samples.
func Distortion(l []float32) (api.Ratio, api.Errno) {
	orders, e := Orders(l)
	if e != api.OK {
		return api.Ratio{}, e
	}
	return quotient(inParts(orders[2]), 2*inParts(orders[1]))
}

// inParts returns an order in parts of 1/256: samples are multiples of 1/16.
func inParts(order float64) int {
	return int(order * 256)
}
