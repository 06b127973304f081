package section

import (
	"woofer/api"
	"woofer/common"
)

// quarters are the powers of -i.
var quarters = [4]api.Gauss{{Re: 1}, {Im: -1}, {Re: -1}, {Im: 1}}

// valueOf returns the value of a + b z + c z z, where z is the power of -i with a quarter.
func valueOf(quarter int, coefficients [3]int) api.Gauss {
	var sum api.Gauss
	for i, x := range coefficients {
		power := quarters[i*quarter%len(quarters)]
		sum = common.Plus(sum, common.Times(api.Gauss{Re: x}, power))
	}
	return sum
}

// Response returns the response of a section without rounding at a quarter.
func Response(s Section, quarter int) (Pair, api.Errno) {
	if e := common.First(CheckSection(s), common.CheckRange(quarter, 0, len(quarters)-1)); e != api.OK {
		return Pair{}, e
	}
	num := valueOf(quarter, [3]int{s.B0, s.B1, s.B2})
	den := valueOf(quarter, [3]int{unit(s), s.A1, s.A2})
	if den == (api.Gauss{}) {
		return Pair{}, api.ErrPole
	}
	return Pair{Num: num, Den: den}, api.OK
}

// Delay returns the delay of a symmetric section without taps of the output.
func Delay(s Section) (api.Ratio, api.Errno) {
	if e := CheckSection(s); e != api.OK {
		return api.Ratio{}, e
	}
	inputs, outputs := numbersOf(s).taps()
	if inputs == [3]int{} || outputs != [2]int{} {
		return api.Ratio{}, api.ErrNone
	}
	switch {
	case inputs == [3]int{s.B2, s.B1, s.B0}:
		return api.Ratio{Num: 1, Den: 1}, api.OK
	case inputs == [3]int{s.B1, s.B0, 0}:
		return api.Ratio{Num: 1, Den: 2}, api.OK
	}
	return api.Ratio{}, api.ErrNone
}

// Mirror returns a section with its taps of the input read backwards.
func Mirror(s Section) (Section, api.Errno) {
	if e := CheckSection(s); e != api.OK {
		return Section{}, e
	}
	s.B0, s.B2 = s.B2, s.B0
	return s, api.OK
}

// distance returns the distance of two sections with the same shift.
func distance(s, t Section) int {
	return weight(s.B0-t.B0, s.B1-t.B1, s.B2-t.B2, s.A1-t.A1, s.A2-t.A2)
}

// Nearest returns the index of the section of a list that is nearest to another one.
func Nearest(l []Section, s Section) (int, api.Errno) {
	if e := common.First(checkSections(l), CheckSection(s)); e != api.OK {
		return 0, e
	}
	nearest, found := 0, false
	for i, x := range l {
		if x.Shift == s.Shift && (!found || distance(x, s) < distance(l[nearest], s)) {
			nearest, found = i, true
		}
	}
	return nearest, common.When(!found, api.ErrNone)
}
