package section_test

import (
	"math/big"

	"woofer/section"
)

// history is all inputs and outputs, the last ones at the end.
type history struct {
	inputs, outputs []int
	limited         int // how many outputs were limited
}

// historyOf returns the history of a state.
func historyOf(x section.State) history {
	return history{inputs: []int{x.X2, x.X1}, outputs: []int{x.Y2, x.Y1}}
}

// state returns the state behind a history.
func (h history) state() section.State {
	n := len(h.inputs)
	return section.State{X1: h.inputs[n-1], X2: h.inputs[n-2], Y1: h.outputs[n-1], Y2: h.outputs[n-2]}
}

// rawOf returns the raw output of a section behind a history with the last input, as a rational number that is rounded down.
func (h history) rawOf(s section.Section) *big.Int {
	sum := new(big.Rat)
	n := len(h.inputs) - 1
	add := func(tap, value int) {
		product := new(big.Rat).Mul(big.NewRat(int64(tap), 1<<s.Shift), big.NewRat(int64(value), 1))
		sum.Add(sum, product)
	}
	add(s.B0, h.inputs[n])
	add(s.B1, h.inputs[n-1])
	add(s.B2, h.inputs[n-2])
	add(-s.A1, h.outputs[n-1])
	add(-s.A2, h.outputs[n-2])
	return new(big.Int).Div(sum.Num(), sum.Denom()) // Euclidean: with a denominator above 0 it rounds down
}

// with returns a history with a step more.
func (h history) with(s section.Section, input int) history {
	h.inputs = append(h.inputs, input)
	raw := h.rawOf(s)
	output := raw.Int64()
	if raw.CmpAbs(big.NewInt(section.MaxValue)) > 0 {
		output = int64(raw.Sign()) * section.MaxValue
		h.limited++
	}
	h.outputs = append(h.outputs, int(output))
	return h
}

// counted returns the history of steps from a state on; its first two elements are those of the state.
func counted(s section.Section, x section.State, l []int) history {
	h := historyOf(x)
	for _, input := range l {
		h = h.with(s, input)
	}
	return h
}

// settled returns with which n and p a section without input settles from a state, if they are together at most most.
func settled(s section.Section, x section.State, most int) (int, int, bool) {
	h := counted(s, x, make([]int, most))
	var states []section.State
	for n := range most + 1 {
		states = append(states, history{inputs: h.inputs[:n+2], outputs: h.outputs[:n+2]}.state())
	}
	for n := range states {
		for p := 1; n+p < len(states); p++ {
			if states[n] == states[n+p] {
				return n, p, true
			}
		}
	}
	return 0, 0, false
}
