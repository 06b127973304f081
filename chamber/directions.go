package chamber

import (
	"slices"

	"woofer/api"
	"woofer/common"
)

// checkDirections returns the first error of directions, or OK.
func checkDirections(l [][]int) api.Errno {
	return common.First(
		common.When(len(l) != Directions, api.ErrShape),
		checkAlike(l),
	)
}

// Pattern returns the energies of all directions.
func Pattern(l [][]int) ([Directions]int, api.Errno) {
	if e := checkDirections(l); e != api.OK {
		return [Directions]int{}, e
	}
	var pattern [Directions]int
	for angle := range Directions {
		pattern[angle] = energyOf(l[angle])
	}
	return pattern, api.OK
}

// Directivity returns the directivity.
func Directivity(l [][]int) (api.Ratio, api.Errno) {
	pattern, e := Pattern(l)
	if e != api.OK {
		return api.Ratio{}, e
	}
	sum := 0
	for _, energy := range pattern {
		sum += energy
	}
	return quotient(Directions*pattern[0], sum)
}

// Turn returns directions that are turned.
func Turn(l [][]int, by int) ([][]int, api.Errno) {
	if e := common.First(checkDirections(l), common.CheckRange(by, 0, Directions-1)); e != api.OK {
		return nil, e
	}
	turned := make([][]int, Directions)
	for angle := range Directions {
		turned[(angle+by)%Directions] = slices.Clone(l[angle])
	}
	return turned, api.OK
}
