package array

import (
	"iter"
	"math"
	"slices"

	"woofer/api"
	"woofer/common"
)

// checkAudience returns the error of an audience, or OK.
func checkAudience(audience [Directions]int) api.Errno {
	return checkNumbers(audience[:], MaxWeight)
}

// Steer returns sources with the phases that add up in a direction.
func Steer(l []Source, direction int) ([]Source, api.Errno) {
	if e := common.First(CheckSources(l), checkDirection(direction)); e != api.OK {
		return nil, e
	}
	steered := slices.Clone(l)
	for i, s := range l {
		opposite := 0
		if s.Gain < 0 {
			opposite = phases / 2
		}
		steered[i].Phase = modulo(opposite - pathOf(s, direction))
	}
	return steered, api.OK
}

// scoreOf returns the score of sources without an error.
func scoreOf(l []Source, audience [Directions]int) int {
	sum := 0
	for direction, z := range patternOf(l) {
		sum += audience[direction] * common.Square(z)
	}
	return sum
}

// Score returns the score of sources for an audience.
func Score(l []Source, audience [Directions]int) (int, api.Errno) {
	if e := common.First(CheckSources(l), checkAudience(audience)); e != api.OK {
		return 0, e
	}
	return scoreOf(l, audience), api.OK
}

// phased visits sources with all phases that they may have, in their order. Each list is new memory.
func phased(l []Source) iter.Seq[[]Source] {
	return func(yield func([]Source) bool) {
		count := 1
		for range l {
			count *= phases
		}
		for n := range count {
			if !yield(withPhases(l, n)) {
				return
			}
		}
	}
}

// withPhases returns sources whose phases are the digits of n, the last one at the last source.
func withPhases(l []Source, n int) []Source {
	list := slices.Clone(l)
	for i := range slices.Backward(list) {
		list[i].Phase = n % phases
		n /= phases
	}
	return list
}

// Best returns sources with the best phases for an audience, and their score.
func Best(l []Source, audience [Directions]int) ([]Source, int, api.Errno) {
	e := common.First(
		CheckSources(l),
		common.When(len(l) > MaxPhased, api.ErrLimit),
		checkAudience(audience),
	)
	if e != api.OK {
		return nil, 0, e
	}
	var best []Source
	most := math.MinInt
search:
	for list := range phased(l) {
		score := scoreOf(list, audience)
		switch {
		case len(list) > 0 && list[0].Phase > 0:
			// No level changes if all phases do alike: the same scores came before, with the first phase 0.
			break search
		case score > most:
			best, most = list, score
		}
	}
	return best, most, api.OK
}
