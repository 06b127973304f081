package section

import (
	"iter"
	"slices"

	"woofer/api"
	"woofer/common"
)

// step is what a section does with an input.
type step struct {
	raw, output int
	behind      State
}

// stepOf returns the step of a section from a state with an input.
func stepOf(s Section, x State, input int) step {
	sum := s.B0*input + s.B1*x.X1 + s.B2*x.X2 - s.A1*x.Y1 - s.A2*x.Y2
	raw := sum >> s.Shift // rounds down, as a division would not
	output := limited(raw)
	return step{raw: raw, output: output, behind: State{X1: input, X2: x.X1, Y1: output, Y2: x.Y1}}
}

// steps visits the steps of a section from a state on, each with the index of its input.
func steps(s Section, x State, l []int) iter.Seq2[int, step] {
	return func(yield func(int, step) bool) {
		at := x
		for i, input := range l {
			next := stepOf(s, at, input)
			if !yield(i, next) {
				return
			}
			at = next.behind
		}
	}
}

// filter replaces inputs by the outputs of steps from a state on, and returns the state behind them.
func filter(s Section, x State, l []int) State {
	behind := x
	for i, next := range steps(s, x, l) {
		l[i], behind = next.output, next.behind
	}
	return behind
}

// Step returns the output for an input, and the state behind it.
func Step(s Section, x State, input int) (int, State, api.Errno) {
	if e := common.First(CheckSection(s), CheckState(x), checkValue(input)); e != api.OK {
		return 0, State{}, e
	}
	next := stepOf(s, x, input)
	return next.output, next.behind, api.OK
}

// Run returns the outputs for inputs.
func Run(s Section, l []int) ([]int, api.Errno) {
	outputs, _, e := From(s, State{}, l)
	return outputs, e
}

// From returns the outputs for inputs from a state on, and the state behind them.
func From(s Section, x State, l []int) ([]int, State, api.Errno) {
	if e := common.First(CheckSection(s), CheckState(x), checkSignal(l)); e != api.OK {
		return nil, State{}, e
	}
	signal := slices.Clone(l)
	behind := filter(s, x, signal)
	return signal, behind, api.OK
}

// Impulse returns the outputs for a pulse.
func Impulse(s Section, height, n int) ([]int, api.Errno) {
	e := common.First(
		CheckSection(s),
		checkValue(height),
		common.CheckRange(n, 0, MaxInput),
	)
	if e != api.OK {
		return nil, e
	}
	signal := make([]int, n)
	if n > 0 {
		signal[0] = height
	}
	filter(s, State{}, signal)
	return signal, api.OK
}

// Cascade returns the outputs of sections, one behind the other.
func Cascade(l []Section, in []int) ([]int, api.Errno) {
	if e := common.First(checkSections(l), checkSignal(in)); e != api.OK {
		return nil, e
	}
	signal := slices.Clone(in)
	for _, s := range l {
		filter(s, State{}, signal)
	}
	return signal, api.OK
}

// Saturations returns how often an output was limited.
func Saturations(s Section, l []int) (int, api.Errno) {
	if e := common.First(CheckSection(s), checkSignal(l)); e != api.OK {
		return 0, e
	}
	sum := 0
	for _, next := range steps(s, State{}, l) {
		if next.output != next.raw {
			sum++
		}
	}
	return sum, api.OK
}
