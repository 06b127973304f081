package protect_test

import (
	"math"
	"slices"

	"woofer/protect"
)

// history is the heat behind outputs, and all outputs, the last one at the end.
type history struct {
	g       guard
	heat    int
	outputs []int
}

// historyOf returns the history of a state.
func historyOf(g guard, s state) history {
	outputs := slices.Clone(s.Past)
	slices.Reverse(outputs)
	return history{g, s.Heat, outputs}
}

// with returns a history with outputs more.
func (h history) with(outputs ...int) history {
	h.outputs = slices.Clone(h.outputs)
	for _, y := range outputs {
		part := math.Floor(float64(h.heat) / math.Pow(2, float64(h.g.Leak)))
		h.heat += y*y - int(part)
		h.outputs = append(h.outputs, y)
	}
	return h
}

// excursion returns the excursion at the last output; there are only zeros before the first one.
func (h history) excursion() int {
	sum := 0
	for i, y := range h.outputs {
		if k := len(h.outputs) - 1 - i; k < len(h.g.Taps) {
			sum += y * h.g.Taps[k]
		}
	}
	return sum
}

// tails returns the tails behind a history.
func (h history) tails() []int {
	var l []int
	for n := 1; n < len(h.g.Taps); n++ {
		l = append(l, h.with(make([]int, n)...).excursion())
	}
	return l
}

// state returns the state behind a history, with the index of a gain.
func (h history) state(level int) state {
	past := make([]int, len(h.g.Taps)-1)
	for k := range past {
		if i := len(h.outputs) - 1 - k; i >= 0 {
			past[k] = h.outputs[i]
		}
	}
	return state{Heat: h.heat, Level: level, Past: past}
}

// isSafe reports whether the state behind a history is safe.
func (h history) isSafe() bool {
	isKept := h.heat <= h.g.Heat
	for _, x := range h.tails() {
		isKept = isKept && -h.g.Reach <= x && x <= h.g.Reach
	}
	return isKept
}

// permits reports whether an output keeps both limits, now and behind.
func (h history) permits(output int) bool {
	next := h.with(output)
	x := next.excursion()
	return next.isSafe() && -h.g.Reach <= x && x <= h.g.Reach
}

// by returns the output for an input by a gain.
func by(input, gain int) int {
	return int(math.Trunc(float64(input) * float64(gain) / 16))
}

// stepped returns the output and the index of the greatest permitted gain: all gains are looked at.
func (h history) stepped(level, input int) (int, int) {
	output, greatest := 0, -1
	for i, gain := range h.g.Gains {
		if y := by(input, gain); i-level <= 1 && h.permits(y) {
			output, greatest = y, i
		}
	}
	return output, greatest
}

// ran returns the outputs and the indices of the gains of a run, and the history behind it.
func ran(g guard, l []int) ([]int, []int, history) {
	h, level := history{g: g}, len(g.Gains)-1
	var levels []int
	for _, input := range l {
		output, next := h.stepped(level, input)
		h, level = h.with(output), next
		levels = append(levels, level)
	}
	return h.outputs, levels, h
}

// allLists returns all lists of n levels, in their order.
func allLists(levels []int, n int) [][]int {
	if n == 0 {
		return [][]int{nil}
	}
	var all [][]int
	for _, shorter := range allLists(levels, n-1) {
		for _, x := range levels {
			all = append(all, append(slices.Clone(shorter), x))
		}
	}
	return all
}

// isPermitted reports whether all outputs of a list are permitted, from the state at rest on.
func isPermitted(g guard, l []int) bool {
	h := history{g: g}
	for _, y := range l {
		if !h.permits(y) {
			return false
		}
		h = h.with(y)
	}
	return true
}

// squares returns the sum of squares.
func squares(l []int) int {
	sum := 0
	for _, x := range l {
		sum += x * x
	}
	return sum
}

// loudestOf returns the loudest of all lists, and whether there is one.
func loudestOf(g guard, levels []int, n int) ([]int, bool) {
	var best []int
	most := -1
	for _, l := range allLists(levels, n) {
		if squares(l) > most && isPermitted(g, l) {
			best, most = l, squares(l)
		}
	}
	return best, most >= 0
}

// safeState returns a state of a guard that is safe and that outputs have led to.
func safeState(next func(least, most int) int, g guard, loud int) state {
	l := draw(next, next(0, 12), loud)
	s, _ := protect.Begin(g)
	for _, input := range l {
		_, behind, _ := protect.Step(g, s, input)
		s = behind
	}
	return s
}
