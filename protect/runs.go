package protect

import (
	"iter"
	"slices"

	"woofer/api"
	"woofer/common"
)

// stepOf returns the output for an input in a safe state, and the state behind it.
func stepOf(g Guard, s State, input int) (int, State) {
	var output int
	var next State
search:
	// The gain 0, the last one here, is always permitted in a safe state.
	for level, gain := range slices.Backward(g.Gains[:min(s.Level+2, len(g.Gains))]) {
		output = input * gain / Unit // rounds towards 0
		after, isPermitted := attempt(g, s, output)
		next = after
		next.Level = level
		if isPermitted {
			break search
		}
	}
	return output, next
}

// Step returns the output for an input, and the state behind it.
func Step(g Guard, s State, input int) (int, State, api.Errno) {
	if e := common.First(CheckState(g, s), checkValue(input)); e != api.OK {
		return 0, State{}, e
	}
	if !isSafe(g, s) {
		return 0, State{}, api.ErrState
	}
	output, next := stepOf(g, s, input)
	return output, next, api.OK
}

// steps visits the outputs of the run of a signal, each with the state behind it.
func steps(g Guard, l []int) iter.Seq2[int, State] {
	return func(yield func(int, State) bool) {
		s := restOf(g)
		for _, input := range l {
			output, next := stepOf(g, s, input)
			if !yield(output, next) {
				return
			}
			s = next
		}
	}
}

// Run returns the outputs for inputs.
func Run(g Guard, l []int) ([]int, api.Errno) {
	if e := common.First(CheckGuard(g), checkSignal(l)); e != api.OK {
		return nil, e
	}
	return outputsOf(g, l), api.OK
}

// outputsOf returns the outputs for a signal without an error.
func outputsOf(g Guard, l []int) []int {
	var outputs []int
	for output := range steps(g, l) {
		outputs = append(outputs, output)
	}
	return outputs
}

// Levels returns the indices of the gains for inputs.
func Levels(g Guard, l []int) ([]int, api.Errno) {
	if e := common.First(CheckGuard(g), checkSignal(l)); e != api.OK {
		return nil, e
	}
	var levels []int
	for _, s := range steps(g, l) {
		levels = append(levels, s.Level)
	}
	return levels, api.OK
}

// Peaks returns the greatest heat and excursion of outputs.
func Peaks(g Guard, out []int) (Peak, api.Errno) {
	if e := common.First(CheckGuard(g), checkSignal(out)); e != api.OK {
		return Peak{}, e
	}
	var peak Peak
	s := restOf(g)
	for _, output := range out {
		next, excursion := behind(g, s, output)
		peak = raised(peak, next.Heat, excursion)
		s = next
	}
	return peak, api.OK
}

// CheckRun returns OK for the outputs of a run.
func CheckRun(g Guard, l, out []int) api.Errno {
	e := common.First(
		CheckGuard(g),
		checkSignal(l),
		checkSignal(out),
		common.When(len(l) != len(out), api.ErrShape),
	)
	if e != api.OK {
		return e
	}
	return common.When(!slices.Equal(out, outputsOf(g, l)), api.ErrProof)
}
