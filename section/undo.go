package section

import (
	"slices"

	"woofer/api"
	"woofer/common"
)

// keepsInformation reports whether a section keeps all information.
func keepsInformation(s Section) bool {
	_, outputs := numbersOf(s).taps()
	return s.B0 == unit(s) && outputs == [2]int{}
}

// Undo returns the inputs of a section that keeps all information.
func Undo(s Section, l []int) ([]int, api.Errno) {
	if e := CheckSection(s); e != api.OK {
		return nil, e
	}
	if e := common.First(common.When(!keepsInformation(s), api.ErrSingular), checkSignal(l)); e != api.OK {
		return nil, e
	}
	signal := slices.Clone(l)
	var x State
	for i := range signal {
		// An input times the unit passes the rounding as a whole: the raw output without the input is the rest.
		signal[i] -= stepOf(s, x, 0).raw
		if isBeyond(signal[i]) {
			return nil, api.ErrRange
		}
		x = State{X1: signal[i], X2: x.X1}
	}
	return signal, api.OK
}
