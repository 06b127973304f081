package array_test

import (
	"slices"
	"testing"

	"woofer/api"
	"woofer/array"
)

// audience is a weight for each direction.
type audience = [array.Directions]int

// P6.4: Steer of the chapter's example, and of others: of all signs of gains, and all directions.
func TestSteer(t *testing.T) {
	steered := func(x, y, gain, phase int) array.Source {
		return array.Source{X: x, Y: y, Gain: gain, Phase: phase}
	}
	want(t, "Steer", list(at(0, 0), steered(1, 0, 1, 3)))(array.Steer(exampleA(), 0))
	want(t, "Steer", list(at(0, 0), steered(1, 0, 1, 1)))(array.Steer(exampleA(), 4))
	want(t, "Steer", exampleA())(array.Steer(exampleA(), 2))
	for gain, opposite := range map[int]int{5: 0, 0: 0, 100: 0, -1: 2, -100: 2} {
		for phase := range 4 {
			for d, phases := range [][]int{{2, 1, 3, 0}, {1, 0, 1, 0}, {3, 3, 2, 0}, {1, 2, 3, 0}, {2, 3, 1, 0}, {3, 0, 3, 0}, {1, 1, 2, 0}, {3, 2, 1, 0}} {
				l := list(steered(2, 1, gain, phase), steered(-5, -3, gain, phase), steered(-99, -98, gain, phase), steered(0, 0, gain, phase))
				wanted := slices.Clone(l)
				for i := range wanted {
					wanted[i].Phase = (phases[i] + opposite) % 4
				}
				want(t, "Steer", wanted)(array.Steer(l, d))
			}
		}
	}
	for d := range array.Directions {
		want(t, "Steer", sources{})(array.Steer(nil, d))
	}
}

// P6.4: behind Steer no gain is below 0 in the direction, and nothing but phases has changed.
func TestSteeredGains(t *testing.T) {
	for _, l := range someArrays() {
		for d := range array.Directions {
			steered := of[sources](t)(array.Steer(l, d))
			for i, s := range steered {
				p := pressureOf(list(s), d)
				same(t, "a gain that is not below 0", p, z(max(s.Gain, -s.Gain), 0))
				if s.Gain == 0 {
					s.Gain = 1
					same(t, "a gain that could be above 0", pressureOf(list(s), d), z(1, 0))
					s.Gain = 0
				}
				s.Phase = l[i].Phase
				same(t, "the source", s, l[i])
			}
		}
	}
}

// P6.4: Score of the chapter's example, and of others; at the limits, too.
func TestScore(t *testing.T) {
	for d, level := range []int{2, 2, 4, 2, 2, 2, 4, 2} {
		var one audience
		one[d] = 1
		want(t, "Score", level)(array.Score(exampleA(), one))
		one[d] = -1000
		want(t, "Score", -1000*level)(array.Score(exampleA(), one))
		want(t, "Score", 0)(array.Score(nil, one))
	}
	want(t, "Score", 0)(array.Score(exampleA(), audience{}))
	want(t, "Score", 132)(array.Score(exampleA(), audience{1, 2, 4, 8, 16, 0, 16, -1})) // 52 + 80
	want(t, "Score", 4)(array.Score(list(at(0, 0), array.Source{X: 1, Gain: 1, Phase: 3}), audience{0: 1, 4: -1}))
	most := audience{1000, 1000, 1000, 1000, 1000, 1000, 1000, 1000}
	want(t, "Score", 8*1000*1600*1600)(array.Score(slices.Repeat(list(wave(100, 1)), 16), most))
	next := random(23)
	for _, l := range someArrays() {
		a := drawnAudience(next, list(1, array.MaxWeight)[next(0, 1)])
		want(t, "Score", scoreOf(l, a))(array.Score(l, a))
	}
}

// isBest requires the results of Best.
func isBest(t *testing.T, l sources, a audience, best sources, score int) {
	t.Helper()
	got, gotScore, e := array.Best(l, a)
	same(t, "Best", []any{got, gotScore, e}, []any{best, score, api.OK})
}

// P6.4: Best of the chapter's example, and of others; of several the first ones, whatever the phases were before.
func TestBest(t *testing.T) {
	phased := func(l sources, phases ...int) sources {
		out := slices.Clone(l)
		for i := range out {
			out[i].Phase = phases[i]
		}
		return out
	}
	a := exampleA()
	b := list(wave(1, 0), wave(2, 0), wave(-4, 0))
	six := slices.Repeat(list(at(0, 0)), 6)
	for _, x := range []struct {
		l      sources
		a      audience
		phases []int
		score  int
	}{
		{a, audience{0: 1, 4: -1}, list(0, 3), 4},
		{a, audience{0: -1, 4: 1}, list(0, 1), 4},
		{a, audience{0: 1}, list(0, 3), 4},
		{a, audience{0: -1}, list(0, 1), 0},
		{a, audience{}, list(0, 0), 0},
		{a, audience{2: 1000}, list(0, 0), 4000},
		{a, audience{2: -1000}, list(0, 2), 0},
		// All phases have the same score.
		{a, audience{0: 1, 4: 1}, list(0, 0), 4},
		{a, audience{0: 1, 2: -1, 4: 1}, list(0, 2), 4},
		// 2 and 3 have the greatest one.
		{a, audience{0: 1, 2: -1}, list(0, 2), 2},
		{b, audience{3: 1}, list(0, 0, 2), 49},
		{b, audience{3: -1}, list(0, 0, 0), -1},
		{list(at(7, 9)), audience{1: 5}, list(0), 5},
		{list(at(7, 9)), audience{1: -5}, list(0), -5},
		{list(wave(0, 3)), audience{1: -5}, list(0), 0},
		{list(wave(0, 3), at(1, 0), at(0, 0)), audience{0: 1}, list(0, 0, 1), 4},
		{nil, audience{0: 1}, nil, 0},
		{nil, audience{0: -1}, nil, 0},
		{six, audience{6: 2}, list(0, 0, 0, 0, 0, 0), 72},
		{six, audience{6: -2}, list(0, 0, 0, 2, 2, 2), 0},
	} {
		isBest(t, x.l, x.a, phased(x.l, x.phases...), x.score)
		if len(x.l) > 0 {
			isBest(t, phased(x.l, 3, 1, 2, 3, 3, 1), x.a, phased(x.l, x.phases...), x.score)
		}
	}
}

// P6.4: Best against all phases, one source after the other.
func TestBestOfAll(t *testing.T) {
	next := random(29)
	for i := range 150 {
		l := drawn(next, i%5, list(1, 2, array.MaxPlace)[next(0, 2)], list(1, 2, array.MaxGain)[next(0, 2)])
		a := drawnAudience(next, list(1, 2, array.MaxWeight)[next(0, 2)])
		best, score := bestOf(l, 0, a)
		isBest(t, l, a, best, score)
	}
	for range 3 {
		l, a := drawn(next, array.MaxPhased, 2, 3), drawnAudience(next, 3)
		best, score := bestOf(l, 0, a)
		isBest(t, l, a, best, score)
	}
}

// P6.4: the errors of arguments, in their order, and nothing beside them.
func TestWrongAudiences(t *testing.T) {
	bestFails := func(l sources, a audience, e api.Errno) {
		t.Helper()
		best, score, got := array.Best(l, a)
		same(t, "Best", []any{best, score, got}, []any{sources{}, 0, e})
	}
	for _, x := range wrongArrays() {
		for _, a := range append(wrongAudiences(), audience{}) {
			fails[int](t, "Score", x.e)(array.Score(x.l, a))
			bestFails(x.l, a, x.e)
		}
		for _, d := range append(wrongDirections, 0) {
			fails[sources](t, "Steer", x.e)(array.Steer(x.l, d))
		}
	}
	for _, d := range wrongDirections {
		fails[sources](t, "Steer", api.ErrRange)(array.Steer(nil, d))
		fails[sources](t, "Steer", api.ErrRange)(array.Steer(exampleA(), d))
	}
	for _, a := range wrongAudiences() {
		for _, l := range []sources{nil, exampleA(), make(sources, 6)} {
			fails[int](t, "Score", api.ErrRange)(array.Score(l, a))
			bestFails(l, a, api.ErrRange)
		}
		fails[int](t, "Score", api.ErrRange)(array.Score(make(sources, 16), a))
		bestFails(make(sources, 7), a, api.ErrLimit)
		bestFails(make(sources, 16), a, api.ErrLimit)
		bestFails(make(sources, 17), a, api.ErrMany)
	}
	bestFails(make(sources, 7), audience{}, api.ErrLimit)
	bestFails(append(make(sources, 7), wrongSources()[0]), audience{}, api.ErrRange)
	isBest(t, make(sources, 6), audience{}, make(sources, 6), 0)
}
