package array

import (
	"cmp"
	"slices"

	"woofer/api"
	"woofer/common"
)

// turnedBy returns sources without an error that are turned by quarter turns.
func turnedBy(l []Source, quarters int) []Source {
	return common.Mapped(l, func(s Source) Source {
		// A factor i leads x + i y to -y + i x.
		z := turned(api.Gauss{Re: s.X, Im: s.Y}, quarters)
		s.X, s.Y = z.Re, z.Im
		return s
	})
}

// Turn returns sources that are turned by quarter turns.
func Turn(l []Source, quarters int) ([]Source, api.Errno) {
	e := common.First(
		CheckSources(l),
		common.CheckRange(quarters, -api.MaxNumber, api.MaxNumber),
	)
	if e != api.OK {
		return nil, e
	}
	return turnedBy(l, quarters), api.OK
}

// Shift returns sources that are shifted.
func Shift(l []Source, x, y int) ([]Source, api.Errno) {
	if e := common.First(CheckSources(l), checkPlaces(x, y)); e != api.OK {
		return nil, e
	}
	return checked(common.Mapped(l, func(s Source) Source {
		s.X += x
		s.Y += y
		return s
	}))
}

// Repeat returns sources each of which is replaced by others.
func Repeat(l, by []Source) ([]Source, api.Errno) {
	if e := common.First(CheckSources(l), CheckSources(by)); e != api.OK {
		return nil, e
	}
	var repeated []Source
	for _, s := range l {
		for _, t := range by {
			repeated = append(repeated, Source{
				X:     s.X + t.X,
				Y:     s.Y + t.Y,
				Gain:  s.Gain * t.Gain,
				Phase: modulo(s.Phase + t.Phase),
			})
		}
	}
	return checked(repeated)
}

// Mirror returns sources with their images behind a wall.
func Mirror(l []Source, wall int, soft bool) ([]Source, api.Errno) {
	if e := common.First(CheckSources(l), checkPlaces(wall)); e != api.OK {
		return nil, e
	}
	images := common.Mapped(l, func(s Source) Source {
		s.X = 2*wall - s.X
		if soft {
			s.Gain = -s.Gain
		}
		return s
	})
	return checked(slices.Concat(l, images))
}

// place is where sources stand.
type place struct {
	x, y int
}

// weightsOf returns the weights of sources without an error.
func weightsOf(l []Source) []Weight {
	total := map[place]api.Gauss{}
	for s, z := range waves(l) {
		at := place{x: s.X, y: s.Y}
		total[at] = common.Plus(total[at], z)
	}
	var weights []Weight
	for at, sum := range total {
		if sum != (api.Gauss{}) {
			weights = append(weights, Weight{X: at.x, Y: at.y, Sum: sum})
		}
	}
	slices.SortFunc(weights, Weight.compare)
	return weights
}

// compare compares the places of two weights.
func (w Weight) compare(v Weight) int {
	return cmp.Or(cmp.Compare(w.X, v.X), cmp.Compare(w.Y, v.Y))
}

// Normal returns the weights of the places.
func Normal(l []Source) ([]Weight, api.Errno) {
	if e := CheckSources(l); e != api.OK {
		return nil, e
	}
	return weightsOf(l), api.OK
}

// Symmetries returns the quarter turns that change nothing.
func Symmetries(l []Source) ([]int, api.Errno) {
	if e := CheckSources(l); e != api.OK {
		return nil, e
	}
	weights := weightsOf(l)
	var symmetries []int
	for quarters := range 4 {
		if slices.Equal(weightsOf(turnedBy(l, quarters)), weights) {
			symmetries = append(symmetries, quarters)
		}
	}
	return symmetries, api.OK
}

// Binomial returns sources in a row with binomial gains.
func Binomial(n, x, y int) ([]Source, api.Errno) {
	const most = 9 // the next coefficients are beyond MaxGain
	if e := common.First(common.CheckRange(n, 1, most), checkPlaces(x, y)); e != api.OK {
		return nil, e
	}
	var row []Source
	coefficient := 1
	for k := range n {
		row = append(row, Source{X: k * x, Y: k * y, Gain: coefficient})
		coefficient = coefficient * (n - 1 - k) / (k + 1)
	}
	return checked(row)
}
