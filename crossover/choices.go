package crossover

import (
	"iter"
	"slices"

	"woofer/api"
	"woofer/common"
	"woofer/network"
)

// checkChosen returns the first error of a catalogue and a choice of its parts, or OK.
func checkChosen(l []Part, choice []int) api.Errno {
	return common.First(CheckCatalogue(l), checkChoice(l, choice))
}

// checkChoice returns the first error of a choice, or OK.
func checkChoice(l []Part, choice []int) api.Errno {
	if len(choice) > MaxParts {
		return api.ErrMany
	}
	isUnknown := func(i int) bool { return !common.Within(i, 0, len(l)-1) }
	return common.When(slices.ContainsFunc(choice, isUnknown), api.ErrUnknown)
}

// Cost returns the cost of a choice.
func Cost(l []Part, choice []int) (int, api.Errno) {
	if e := checkChosen(l, choice); e != api.OK {
		return 0, e
	}
	return costOf(l, choice), api.OK
}

func costOf(l []Part, choice []int) int {
	sum := 0
	for _, i := range choice {
		sum += l[i].Cost
	}
	return sum
}

// Stocked reports whether a choice is in stock.
func Stocked(l []Part, choice []int) (bool, api.Errno) {
	if e := checkChosen(l, choice); e != api.OK {
		return false, e
	}
	return isStocked(l, choice), api.OK
}

// Take returns a catalogue without the parts of a choice.
func Take(l []Part, choice []int) ([]Part, api.Errno) {
	if e := checkChosen(l, choice); e != api.OK {
		return nil, e
	}
	if !isStocked(l, choice) {
		return nil, api.ErrNone
	}
	return without(l, choice), api.OK
}

func isStocked(l []Part, choice []int) bool {
	return !slices.ContainsFunc(without(l, choice), func(p Part) bool { return p.Stock < 0 })
}

// without returns a catalogue with the stocks less the parts of a choice: below 0 where there are too few.
func without(l []Part, choice []int) []Part {
	left := slices.Clone(l)
	for _, i := range choice {
		left[i].Stock--
	}
	return left
}

// rows visits the rows with one element of each list; of two rows the one with the earlier element at the first place at
// which they differ comes first. Each row is new memory.
func rows[T any](lists [][]T) iter.Seq[[]T] {
	return func(yield func([]T) bool) {
		if len(lists) == 0 {
			yield(nil)
			return
		}
		last := len(lists) - 1
		for begin := range rows(lists[:last]) {
			for _, x := range lists[last] {
				if !yield(append(slices.Clone(begin), x)) {
					return
				}
			}
		}
	}
}

// ladders visits the ladders of a choice with the given values of each part, in their order.
func ladders(l []Part, choice []int, values func(p Part) []network.Element) iter.Seq[[]network.Element] {
	return rows(common.Mapped(choice, func(i int) []network.Element { return values(l[i]) }))
}

// choices visits the choices of at most n parts that are in stock, in their order.
func choices(l []Part, n int) iter.Seq[[]int] {
	all := indices(l)
	return func(yield func([]int) bool) {
		for count := range n + 1 {
			for choice := range rows(slices.Repeat([][]int{all}, count)) {
				if isStocked(l, choice) && !yield(choice) {
					return
				}
			}
		}
	}
}
