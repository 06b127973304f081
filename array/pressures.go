package array

import (
	"iter"

	"woofer/api"
	"woofer/common"
)

// steps are those of the directions.
var steps = [Directions][2]int{{1, 0}, {1, 1}, {0, 1}, {-1, 1}, {-1, 0}, {-1, -1}, {0, -1}, {1, -1}}

// powers are those of i.
var powers = [phases]api.Gauss{{Re: 1}, {Im: 1}, {Re: -1}, {Im: -1}}

// turned returns a complex integer times i to a power.
func turned(z api.Gauss, power int) api.Gauss {
	return common.Times(z, powers[modulo(power)])
}

// pathOf returns the path of a source without an error.
func pathOf(s Source, direction int) int {
	step := steps[direction]
	return s.X*step[0] + s.Y*step[1]
}

// waves visits sources, each with its gain times i to the power of its phase.
func waves(l []Source) iter.Seq2[Source, api.Gauss] {
	return func(yield func(Source, api.Gauss) bool) {
		for _, s := range l {
			if !yield(s, turned(api.Gauss{Re: s.Gain}, s.Phase)) {
				return
			}
		}
	}
}

// pressureOf returns the pressure of sources without an error.
func pressureOf(l []Source, direction int) api.Gauss {
	var sum api.Gauss
	for s, z := range waves(l) {
		sum = common.Plus(sum, turned(z, pathOf(s, direction)))
	}
	return sum
}

// patternOf returns the pattern of sources without an error.
func patternOf(l []Source) [Directions]api.Gauss {
	var pattern [Directions]api.Gauss
	for direction := range Directions {
		pattern[direction] = pressureOf(l, direction)
	}
	return pattern
}

// Step returns the step of a direction.
func Step(direction int) (int, int, api.Errno) {
	if e := checkDirection(direction); e != api.OK {
		return 0, 0, e
	}
	step := steps[direction]
	return step[0], step[1], api.OK
}

// Path returns the path of a source in a direction, in quarter waves.
func Path(s Source, direction int) (int, api.Errno) {
	if e := common.First(checkSource(s), checkDirection(direction)); e != api.OK {
		return 0, e
	}
	return pathOf(s, direction), api.OK
}

// Pressure returns the pressure of sources in a direction.
func Pressure(l []Source, direction int) (api.Gauss, api.Errno) {
	if e := common.First(CheckSources(l), checkDirection(direction)); e != api.OK {
		return api.Gauss{}, e
	}
	return pressureOf(l, direction), api.OK
}

// Pattern returns the pressures in all directions.
func Pattern(l []Source) ([Directions]api.Gauss, api.Errno) {
	if e := CheckSources(l); e != api.OK {
		return [Directions]api.Gauss{}, e
	}
	return patternOf(l), api.OK
}

// Balloon returns one sixteenth of the pressures in all directions.
func Balloon(l []Source) ([Directions]complex64, api.Errno) {
	const part = 16
	pattern, e := Pattern(l)
	var balloon [Directions]complex64
	for direction, z := range pattern {
		balloon[direction] = complex(float32(z.Re)/part, float32(z.Im)/part)
	}
	return balloon, e
}

// Level returns the level of sources in a direction.
func Level(l []Source, direction int) (int, api.Errno) {
	z, e := Pressure(l, direction)
	return common.Square(z), e
}
