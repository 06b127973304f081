package array

import (
	"woofer/api"
	"woofer/common"
)

// Nulls returns the directions without pressure.
func Nulls(l []Source) ([]int, api.Errno) {
	if e := CheckSources(l); e != api.OK {
		return nil, e
	}
	var nulls []int
	for direction, z := range patternOf(l) {
		if z == (api.Gauss{}) {
			nulls = append(nulls, direction)
		}
	}
	return nulls, api.OK
}

// Directivity returns the level in a direction, divided by the mean one.
func Directivity(l []Source, direction int) (api.Ratio, api.Errno) {
	if e := common.First(CheckSources(l), checkDirection(direction)); e != api.OK {
		return api.Ratio{}, e
	}
	pattern := patternOf(l)
	if pattern == [Directions]api.Gauss{} {
		return api.Ratio{}, api.ErrZero
	}
	sum := 0
	for _, z := range pattern {
		sum += common.Square(z)
	}
	return common.Lowest(api.Ratio{Num: Directions * common.Square(pattern[direction]), Den: sum}), api.OK
}

// checkValues returns the error of pressures or harmonics, or OK.
func checkValues(values [4]api.Gauss) api.Errno {
	return common.First(common.Mapped(values[:], func(z api.Gauss) api.Errno {
		return checkNumbers([]int{z.Re, z.Im}, api.MaxNumber)
	})...)
}

// sums returns for each m the sum over k of the value k times i to the power of turn m k.
func sums(values [4]api.Gauss, turn int) [4]api.Gauss {
	var list [4]api.Gauss
	for m := range list {
		for k, z := range values {
			list[m] = common.Plus(list[m], turned(z, turn*m*k))
		}
	}
	return list
}

// Harmonics returns the harmonics of four pressures.
func Harmonics(p [4]api.Gauss) ([4]api.Gauss, api.Errno) {
	if e := checkValues(p); e != api.OK {
		return [4]api.Gauss{}, e
	}
	return sums(p, -1), api.OK
}

// Back returns the pressures with some harmonics.
func Back(h [4]api.Gauss) ([4]api.Gauss, api.Errno) {
	if e := checkValues(h); e != api.OK {
		return [4]api.Gauss{}, e
	}
	var p [4]api.Gauss
	for k, z := range sums(h, 1) {
		p[k] = api.Gauss{Re: z.Re / len(h), Im: z.Im / len(h)}
	}
	// Different pressures have different harmonics: these are the ones of p exactly if no division left a rest.
	if sums(p, -1) != h {
		return [4]api.Gauss{}, api.ErrConflict
	}
	return p, api.OK
}
