package chamber_test

import (
	"math"
	"math/big"
	"testing"

	"woofer/api"
	"woofer/chamber"
	"woofer/signal"
)

// exampleG returns the response of the chapter's example of gates.
func exampleG() []int {
	return list(0, 5, -3, 1)
}

// P7.3: Gate of the chapter's example, and with all gates of it.
func TestGate(t *testing.T) {
	want(t, "Gate", two{list(0, 5, -3, 0), 1})(both(chamber.Gate(exampleG(), 1, 3)))
	for from := range 5 {
		for to := from; to <= 4; to++ {
			kept, removed := make([]int, 4), 0
			for i, x := range exampleG() {
				if from <= i && i < to {
					kept[i] = x
				} else {
					removed += x * x
				}
			}
			want(t, "Gate", two{kept, removed})(both(chamber.Gate(exampleG(), from, to)))
		}
	}
	want(t, "Gate", two{[]int{}, 0})(both(chamber.Gate(nil, 0, 0)))
	all := repeated(-level, longest)
	want(t, "Gate", two{all, 0})(both(chamber.Gate(all, 0, longest)))
	want(t, "Gate", two{make([]int, longest), 1 << 48})(both(chamber.Gate(all, longest, longest)))
	want(t, "Gate", two{append(list(-level), make([]int, longest-1)...), 255 << 40})(both(chamber.Gate(all, 0, 1)))
}

// P7.3: gates that lie outside, and the error of the response before.
func TestWrongGates(t *testing.T) {
	for _, x := range [][2]int{{-1, 2}, {0, 5}, {2, 1}, {4, 3}, {5, 5}, {-1, -1}, {-2, -1}, {5, 4}, {math.MinInt, math.MaxInt}, {math.MaxInt, math.MinInt}, {math.MaxInt, math.MaxInt}} {
		failsBoth[[]int, int](t, "Gate", api.ErrSpan)(chamber.Gate(exampleG(), x[0], x[1]))
		for _, wrong := range wrongResponses() {
			failsBoth[[]int, int](t, "Gate", wrong.e)(chamber.Gate(wrong.l, x[0], x[1]))
		}
	}
	for _, x := range wrongResponses() {
		failsBoth[[]int, int](t, "Gate", x.e)(chamber.Gate(x.l, 0, 0))
		failsBoth[[]int, int](t, "Gate", x.e)(chamber.Gate(x.l, 0, len(x.l)))
	}
	failsBoth[[]int, int](t, "Gate", api.ErrSpan)(chamber.Gate(nil, 0, 1))
	failsBoth[[]int, int](t, "Gate", api.ErrSpan)(chamber.Gate(nil, 1, 1))
	failsBoth[[]int, int](t, "Gate", api.ErrSpan)(chamber.Gate(nil, -1, 0))
}

// P7.3: Resolution of the chapter's example, of others, and at the limits.
func TestResolution(t *testing.T) {
	for _, x := range []struct {
		rate, length int
		resolution   api.Ratio
	}{
		{48, 3, ratio(16, 1)},
		{48, 5, ratio(48, 5)},
		{48, 32, ratio(3, 2)},
		{48, 96, ratio(1, 2)},
		{1, 1, ratio(1, 1)},
		{1, longest, ratio(1, 256)},
		{signal.MaxRate, 1, ratio(192000, 1)},
		{signal.MaxRate, longest, ratio(750, 1)},
		{signal.MaxRate - 1, longest, ratio(191999, 256)},
		{44100, 255, ratio(2940, 17)},
	} {
		want(t, "Resolution", x.resolution)(chamber.Resolution(x.rate, x.length))
	}
	for _, rate := range []int{0, -1, signal.MaxRate + 1, math.MinInt, math.MaxInt} {
		fails[api.Ratio](t, "Resolution", api.ErrRange)(chamber.Resolution(rate, 3))
		fails[api.Ratio](t, "Resolution", api.ErrRange)(chamber.Resolution(rate, 0))
	}
	for _, length := range wrongLengths {
		fails[api.Ratio](t, "Resolution", api.ErrRange)(chamber.Resolution(48, length))
	}
}

// P7.3: Arrival of the chapter's example, and of others.
func TestArrival(t *testing.T) {
	for _, x := range []struct {
		h         []int
		level, at int
	}{
		{exampleG(), 3, 1},
		{exampleG(), 1, 1},
		{exampleG(), 5, 1},
		{list(0, -5, 6, 1), 5, 1},
		{list(0, -5, 6, 1), 6, 2},
		{list(1, 2, 3, 4), 4, 3},
		{list(-1, 9), 1, 0},
		{list(level-1, -level, level), level, 1},
		{append(make([]int, longest-1), 1), 1, longest - 1},
	} {
		want(t, "Arrival", x.at)(chamber.Arrival(x.h, x.level))
	}
	for _, h := range [][]int{nil, {0}, {0, 2, -2}, make([]int, longest)} {
		fails[int](t, "Arrival", api.ErrNone)(chamber.Arrival(h, 3))
		fails[int](t, "Arrival", api.ErrNone)(chamber.Arrival(h, level))
		for _, n := range []int{0, -1, level + 1, math.MinInt, math.MaxInt} {
			fails[int](t, "Arrival", api.ErrRange)(chamber.Arrival(h, n))
		}
	}
	for _, x := range wrongResponses() {
		fails[int](t, "Arrival", x.e)(chamber.Arrival(x.l, 1))
		fails[int](t, "Arrival", x.e)(chamber.Arrival(x.l, 0))
	}
}

// P7.3: Reflection of some responses; a level has no limit above.
func TestReflection(t *testing.T) {
	for _, x := range []struct {
		a, b      []int
		level, at int
	}{
		{list(1, 2, 3), list(1, 2, 4), 0, 2},
		{list(1, 2, 3), list(0, 2, 4), 0, 0},
		{list(1, 5, 3), list(0, 2, 9), 2, 1},
		{list(1, 2, 3), list(0, 5, 9), 2, 1},
		{list(1, 5, 3), list(0, 2, 9), 3, 2},
		{list(-2, 2), list(0, -1), 2, 1},
		{list(0, level), list(0, -level), 2*level - 1, 1},
		{list(0, -level), list(0, level), level, 1},
		{make([]int, longest), append(make([]int, longest-1), -1), 0, longest - 1},
	} {
		want(t, "Reflection", x.at)(chamber.Reflection(x.a, x.b, x.level))
		want(t, "Reflection", x.at)(chamber.Reflection(x.b, x.a, x.level))
	}
	none := fails[int](t, "Reflection", api.ErrNone)
	none(chamber.Reflection(nil, nil, 0))
	none(chamber.Reflection(exampleG(), exampleG(), 0))
	none(chamber.Reflection(list(1, 5, 3), list(0, 2, 9), 6))
	none(chamber.Reflection(list(0, level), list(0, -level), 2*level))
	none(chamber.Reflection(list(0, level), list(0, -level), math.MaxInt))
}

// P7.3: the errors of Reflection, in their order.
func TestWrongReflections(t *testing.T) {
	for _, x := range wrongResponses() {
		for _, n := range []int{-1, 0, math.MinInt} {
			fails[int](t, "Reflection", x.e)(chamber.Reflection(x.l, repeated(level+1, longest+1), n))
			fails[int](t, "Reflection", x.e)(chamber.Reflection(x.l, list(1), n))
			fails[int](t, "Reflection", x.e)(chamber.Reflection(list(1), x.l, n))
			fails[int](t, "Reflection", x.e)(chamber.Reflection(nil, x.l, n))
		}
	}
	for _, n := range []int{-1, -level, math.MinInt} {
		fails[int](t, "Reflection", api.ErrRange)(chamber.Reflection(list(1), list(2), n))
		fails[int](t, "Reflection", api.ErrRange)(chamber.Reflection(list(1), list(2, 3), n))
		fails[int](t, "Reflection", api.ErrRange)(chamber.Reflection(nil, nil, n))
	}
	for _, n := range []int{0, 1, math.MaxInt} {
		fails[int](t, "Reflection", api.ErrShape)(chamber.Reflection(list(1), list(2, 3), n))
		fails[int](t, "Reflection", api.ErrShape)(chamber.Reflection(list(1, 2), list(2), n))
		fails[int](t, "Reflection", api.ErrShape)(chamber.Reflection(nil, list(2), n))
		fails[int](t, "Reflection", api.ErrShape)(chamber.Reflection(make([]int, longest), nil, n))
	}
}

// P7.3: Decay of the chapter's example, and of others.
func TestDecay(t *testing.T) {
	want(t, "Decay", list(35, 35, 10, 1))(chamber.Decay(exampleG()))
	want(t, "Decay", list(10, 1))(chamber.Decay(exampleH()))
	want(t, "Decay", []int{})(chamber.Decay(nil))
	want(t, "Decay", list(0, 0))(chamber.Decay(list(0, 0)))
	for _, h := range someResponses() {
		decay := of[[]int](t)(chamber.Decay(h))
		same(t, "length of the decay", len(decay), len(h))
		for i := range decay {
			same(t, "Decay", decay[i], energy(h[i:]))
		}
	}
	want(t, "the greatest decay", 1<<48)(func() (int, api.Errno) {
		decay, e := chamber.Decay(repeated(-level, longest))
		return decay[0], e
	}())
	for _, x := range wrongResponses() {
		fails[[]int](t, "Decay", x.e)(chamber.Decay(x.l))
	}
}

// P7.3: Falls of the chapter's example, and of others; at shares that are just reached, and just not.
func TestFalls(t *testing.T) {
	for _, x := range []struct {
		h     []int
		share api.Ratio
		at    int
	}{
		{exampleG(), ratio(1, 3), 2},
		{exampleG(), ratio(1, 1), 0},
		{exampleG(), ratio(34, 35), 2},
		{exampleG(), ratio(2, 7), 2},
		{exampleG(), ratio(285714284, 999999997), 3},
		{exampleG(), ratio(1, 35), 3},
		{exampleG(), ratio(29, 999), 3},
		{list(3, -1, 0), ratio(0, 1), 2},
		{list(3, -1, 0), ratio(1, 11), 2},
		{list(3, -1, 0), ratio(1, 10), 1},
		{list(0, 0), ratio(0, 1), 0},
		{list(0), ratio(1, 2), 0},
		{repeated(level, longest), ratio(1, 2), 128},
		{repeated(level, longest), ratio(1, 256), 255},
		{repeated(level, longest), ratio(499999999, 999999999), 129},
		{repeated(level, longest), ratio(500000000, 999999999), 128},
	} {
		want(t, "Falls", x.at)(chamber.Falls(x.h, x.share))
	}
	none := fails[int](t, "Falls", api.ErrNone)
	none(chamber.Falls(exampleG(), ratio(0, 1)))
	none(chamber.Falls(exampleG(), ratio(1, 36)))
	none(chamber.Falls(list(1), ratio(1, 2)))
	none(chamber.Falls(list(1), ratio(999999998, 999999999)))
	none(chamber.Falls(repeated(level, longest), ratio(3906249, 999999998)))
}

// P7.3: Falls against big integers.
func TestFallsInBigIntegers(t *testing.T) {
	next := random(29)
	some, none := 0, 0
	for _, h := range someResponses() {
		if len(h) == 0 {
			continue
		}
		for range 5 {
			den := list(3, 100, api.MaxNumber)[next(0, 2)]
			share := new(big.Rat).SetFrac64(int64(next(0, list(den, den/3, 2)[next(0, 2)])), int64(den))
			at := fallOf(h, share)
			x := ratio(int(share.Num().Int64()), int(share.Denom().Int64()))
			if at < 0 {
				fails[int](t, "Falls", api.ErrNone)(chamber.Falls(h, x))
				none++
				continue
			}
			want(t, "Falls", at)(chamber.Falls(h, x))
			some++
		}
	}
	same(t, "enough of both sorts", some > 50 && none > 50, true)
}

// fallOf returns the index at which the decay of a response falls to a share, or -1.
func fallOf(h []int, share *big.Rat) int {
	limit := new(big.Rat).Mul(share, new(big.Rat).SetInt(energy(h)))
	for i := range h {
		if new(big.Rat).SetInt(energy(h[i:])).Cmp(limit) <= 0 {
			return i
		}
	}
	return -1
}

// P7.3: the errors of Falls, in their order.
func TestWrongFalls(t *testing.T) {
	wrong := []struct {
		share api.Ratio
		e     api.Errno
	}{
		{api.Ratio{}, api.ErrRange},
		{ratio(1, 0), api.ErrRange},
		{ratio(1, -2), api.ErrRange},
		{ratio(-1, -2), api.ErrRange},
		{ratio(1, api.MaxNumber+1), api.ErrRange},
		{ratio(api.MaxNumber+1, 1), api.ErrRange},
		{ratio(math.MinInt, math.MinInt), api.ErrRange},
		{ratio(math.MaxInt, math.MaxInt), api.ErrRange},
		{ratio(2, 4), api.ErrForm},
		{ratio(0, 2), api.ErrForm},
		{ratio(2, 2), api.ErrForm},
		// The form comes before the range of a share.
		{ratio(4, 2), api.ErrForm},
		{ratio(-2, 4), api.ErrForm},
		{ratio(-1, 2), api.ErrRange},
		{ratio(-1, api.MaxNumber), api.ErrRange},
		{ratio(3, 2), api.ErrRange},
		{ratio(2, 1), api.ErrRange},
		{ratio(api.MaxNumber, api.MaxNumber-1), api.ErrRange},
	}
	for _, x := range wrong {
		for _, h := range [][]int{nil, {0}, {5}, exampleG()} {
			fails[int](t, "Falls", x.e)(chamber.Falls(h, x.share))
		}
		for _, y := range wrongResponses() {
			fails[int](t, "Falls", y.e)(chamber.Falls(y.l, x.share))
		}
	}
	for _, x := range wrongResponses() {
		fails[int](t, "Falls", x.e)(chamber.Falls(x.l, ratio(1, 2)))
	}
	for _, share := range []api.Ratio{ratio(0, 1), ratio(1, 2), ratio(1, 1)} {
		fails[int](t, "Falls", api.ErrEmpty)(chamber.Falls(nil, share))
		fails[int](t, "Falls", api.ErrEmpty)(chamber.Falls([]int{}, share))
	}
}
