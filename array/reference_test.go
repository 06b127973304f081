package array_test

import (
	"math"
	"math/cmplx"

	"woofer/api"
	"woofer/array"
)

// angles are those of the directions, in degrees.
var angles = [array.Directions]float64{0, 45, 90, 135, 180, 225, 270, 315}

// waveOf returns the gain of a source, times i to the power of its phase and some quarters, as a complex number.
func waveOf(s array.Source, quarters int) complex128 {
	return cmplx.Rect(float64(s.Gain), math.Pi/2*float64(s.Phase+quarters))
}

// pathOf returns the path of a source, from the angle of a direction: in the diagonal ones a step is longer.
func pathOf(s array.Source, direction int) int {
	length := 1.0
	if direction%2 == 1 {
		length = math.Sqrt2
	}
	sin, cos := math.Sincos(angles[direction] * math.Pi / 180)
	return int(math.Round(length * (cos*float64(s.X) + sin*float64(s.Y))))
}

// pressureOf returns the pressure of sources, from waves as complex numbers.
func pressureOf(l sources, direction int) api.Gauss {
	var sum complex128
	for _, s := range l {
		sum += waveOf(s, pathOf(s, direction))
	}
	return rounded(sum)
}

func rounded(x complex128) api.Gauss {
	return z(int(math.Round(real(x))), int(math.Round(imag(x))))
}

// patternOf returns the pressures in all directions.
func patternOf(l sources) pattern {
	var p pattern
	for d := range p {
		p[d] = pressureOf(l, d)
	}
	return p
}

// square returns the squared absolute value of a complex integer.
func square(x api.Gauss) int {
	return x.Re*x.Re + x.Im*x.Im
}

// scoreOf returns the score of sources.
func scoreOf(l sources, audience [array.Directions]int) int {
	sum := 0
	for d, p := range patternOf(l) {
		sum += audience[d] * square(p)
	}
	return sum
}

// weightsOf returns the weights of sources, from a look at each place of the lattice.
func weightsOf(l sources) []array.Weight {
	var weights []array.Weight
	for x := -array.MaxPlace; x <= array.MaxPlace; x++ {
		for y := -array.MaxPlace; y <= array.MaxPlace; y++ {
			var sum complex128
			for _, s := range l {
				if s.X == x && s.Y == y {
					sum += waveOf(s, 0)
				}
			}
			if rounded(sum) != (api.Gauss{}) {
				weights = append(weights, array.Weight{X: x, Y: y, Sum: rounded(sum)})
			}
		}
	}
	return weights
}

// bestOf returns the best phases of sources from the one with an index on, and their score; of several the first ones.
func bestOf(l sources, from int, audience [array.Directions]int) (sources, int) {
	if from == len(l) {
		return append(sources{}, l...), scoreOf(l, audience)
	}
	var best sources
	most := math.MinInt
	own := append(sources{}, l...)
	for phase := range 4 {
		own[from].Phase = phase
		if found, score := bestOf(own, from+1, audience); score > most {
			best, most = found, score
		}
	}
	return best, most
}
