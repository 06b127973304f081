package protect

import (
	"slices"

	"woofer/api"
	"woofer/common"
)

// row is the taps of a guard, or outputs, the latest one first. The places behind them are 0.
type row [MaxTaps]int

// rowOf returns the row of at most MaxTaps integers.
func rowOf(l []int) row {
	var r row
	copy(r[:], l)
	return r
}

// with returns outputs with a later one.
func (r row) with(output int) row {
	copy(r[1:], r[:])
	r[0] = output
	return r
}

// excursionOf returns the excursion at the latest one of outputs.
func excursionOf(taps, outputs row) int {
	sum := 0
	for i, tap := range taps {
		sum += tap * outputs[i]
	}
	return sum
}

// restOf returns the state at rest.
func restOf(g Guard) State {
	return State{Level: len(g.Gains) - 1, Past: make([]int, len(g.Taps)-1)}
}

// behind returns the state behind an output, and the excursion at it.
func behind(g Guard, s State, output int) (State, int) {
	outputs := rowOf(s.Past).with(output)
	next := State{
		Heat:  cooled(g, s.Heat) + output*output,
		Level: s.Level,
		Past:  slices.Clone(outputs[:len(s.Past)]),
	}
	return next, excursionOf(rowOf(g.Taps), outputs)
}

// cooled returns what is left of a heat behind a step without output.
func cooled(g Guard, heat int) int {
	return heat - heat>>g.Leak
}

// tailsOf returns the tails of a state.
func tailsOf(g Guard, s State) []int {
	list := make([]int, len(s.Past))
	taps, outputs := rowOf(g.Taps), rowOf(s.Past)
	for i := range list {
		outputs = outputs.with(0)
		list[i] = excursionOf(taps, outputs)
	}
	return list
}

// raised returns a peak that a heat and excursions have raised.
func raised(p Peak, heat int, excursions ...int) Peak {
	p.Heat = max(p.Heat, heat)
	for _, x := range excursions {
		p.Excursion = max(p.Excursion, common.Absolute(x))
	}
	return p
}

// keeps reports whether a heat and excursions keep the limits of a guard.
func keeps(g Guard, heat int, excursions ...int) bool {
	limit := Peak{Heat: g.Heat, Excursion: g.Reach}
	return raised(limit, heat, excursions...) == limit
}

// isSafe reports whether a state is safe.
func isSafe(g Guard, s State) bool {
	return keeps(g, s.Heat, tailsOf(g, s)...)
}

// attempt returns the state behind an output, and whether both limits are kept, now and behind.
func attempt(g Guard, s State, output int) (State, bool) {
	next, excursion := behind(g, s, output)
	return next, keeps(g, next.Heat, excursion) && isSafe(g, next)
}

// Begin returns the state at rest.
func Begin(g Guard) (State, api.Errno) {
	if e := CheckGuard(g); e != api.OK {
		return State{}, e
	}
	return restOf(g), api.OK
}

// Tails returns the excursions that come without further outputs.
func Tails(g Guard, s State) ([]int, api.Errno) {
	if e := CheckState(g, s); e != api.OK {
		return nil, e
	}
	return tailsOf(g, s), api.OK
}

// Safe reports whether a state keeps all limits without further outputs.
func Safe(g Guard, s State) (bool, api.Errno) {
	if e := CheckState(g, s); e != api.OK {
		return false, e
	}
	return isSafe(g, s), api.OK
}

// Behind returns the state behind an output, and the excursion at it.
func Behind(g Guard, s State, output int) (State, int, api.Errno) {
	if e := common.First(CheckState(g, s), checkValue(output)); e != api.OK {
		return State{}, 0, e
	}
	next, excursion := behind(g, s, output)
	if next.Heat > MaxHeat {
		return State{}, 0, api.ErrLarge
	}
	return next, excursion, api.OK
}
