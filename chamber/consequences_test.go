package chamber_test

import (
	"fmt"
	"math"
	"math/big"
	"slices"
	"testing"

	"woofer/api"
	"woofer/chamber"
	"woofer/signal"
)

// P7.7, P8: a response comes back from its answers, to whichever pair, also by its estimate.
func TestResponsesComeBack(t *testing.T) {
	checked := 0
	for _, h := range someResponses() {
		for _, n := range pairLengths {
			a, b, e := chamber.Answers(h, n)
			if e != api.OK {
				same(t, "Answers", e, api.ErrLarge)
				continue
			}
			want(t, "Deconvolve", h)(chamber.Deconvolve(a, b, n))
			want(t, "Estimate", h)(chamber.Estimate(a, b, n))
			checked++
		}
	}
	same(t, "enough responses", checked > 500, true)
}

// P7.7: what Deconvolve returns explains both sequences; whether there is such a response is known from all small ones.
func TestExplained(t *testing.T) {
	explained := map[string][]int{}
	numbers := list(-2, -1, 0, 1, 2)
	for _, x := range numbers {
		for _, y := range numbers {
			a, b, e := chamber.Answers(list(x, y), 2)
			same(t, "Answers", e, api.OK)
			explained[fmt.Sprint(a, b)] = list(x, y)
		}
	}
	same(t, "one response at most", len(explained), 25)
	next := random(47)
	for range 3000 {
		a, b := draw(next, 3, 2), draw(next, 3, 2)
		if h, isExplained := explained[fmt.Sprint(a, b)]; isExplained {
			want(t, "Deconvolve", h)(chamber.Deconvolve(a, b, 2))
		} else {
			fails[[]int](t, "Deconvolve", api.ErrConflict)(chamber.Deconvolve(a, b, 2))
		}
	}
}

// sum returns the sums of the elements of two lists.
func sum(a, b []int) []int {
	l := make([]int, len(a))
	for i := range l {
		l[i] = a[i] + b[i]
	}
	return l
}

// P7.7: answers add up.
func TestAnswersAddUp(t *testing.T) {
	next := random(53)
	for range 200 {
		n, length := pairLengths[next(0, 6)], next(0, 30)
		g, h := draw(next, length, 5000), draw(next, length, 5000)
		a, b, e := chamber.Answers(g, n)
		same(t, "Answers", e, api.OK)
		c, d, e := chamber.Answers(h, n)
		same(t, "Answers", e, api.OK)
		want(t, "Answers of a sum", two{sum(a, c), sum(b, d)})(both(chamber.Answers(sum(g, h), n)))
	}
}

// P7.7: a response comes back from its convolution with a sequence by a division.
func TestConvolutionsAreDivided(t *testing.T) {
	next := random(59)
	checked := 0
	for range 200 {
		h, a := draw(next, next(1, 40), 300), draw(next, next(1, 40), 300)
		if a[0] == 0 {
			continue
		}
		y := of[[]int](t)(signal.Convolve(h, a))
		want(t, "Divide", h)(chamber.Divide(y, a))
		checked++
	}
	same(t, "enough responses", checked > 150, true)
	// From each answer alone, too.
	for _, n := range pairLengths {
		p, q := pairOf(n)
		h := draw(next, 50, 1000)
		a, b, e := chamber.Answers(h, n)
		same(t, "Answers", e, api.OK)
		want(t, "Divide", h)(chamber.Divide(a, p))
		want(t, "Divide", h)(chamber.Divide(b, q))
	}
}

// P7.7, P8: what a gate keeps and what it removes are the whole energy.
func TestGatesKeepEnergy(t *testing.T) {
	next := random(61)
	for _, h := range someResponses() {
		to := next(0, len(h))
		from := next(0, to)
		kept, removed, e := chamber.Gate(h, from, to)
		same(t, "Gate", e, api.OK)
		whole := energy(kept)
		same(t, "the whole energy", whole.Add(whole, big.NewInt(int64(removed))), energy(h))
	}
}

// P7.7: two gates one after the other keep what both keep.
func TestGatesOfGates(t *testing.T) {
	h := list(1, -2, 3, -4)
	gated := func(h []int, from, to int) []int {
		kept, _, e := chamber.Gate(h, from, to)
		same(t, "Gate", e, api.OK)
		return kept
	}
	for from := range 5 {
		for to := from; to <= 4; to++ {
			for from2 := range 5 {
				for to2 := from2; to2 <= 4; to2++ {
					low := max(from, from2)
					high := max(low, min(to, to2))
					same(t, "two gates", gated(gated(h, from, to), from2, to2), gated(h, low, high))
				}
			}
		}
	}
}

// P7.7: the decay never rises, and begins with the whole energy; a response falls where its decay says.
func TestDecaysNeverRise(t *testing.T) {
	for _, h := range someResponses() {
		decay := of[[]int](t)(chamber.Decay(h))
		if len(h) == 0 {
			continue
		}
		same(t, "the begin of the decay", decay[0], energy(h))
		same(t, "the decay never rises", slices.IsSortedFunc(decay, func(a, b int) int { return b - a }), true)
		want(t, "Falls to all", 0)(chamber.Falls(h, ratio(1, 1)))
		_, removed, e := chamber.Gate(h, 0, len(h)/2)
		same(t, "what the first half does not have", []any{removed, e}, []any{decay[len(h)/2:][0], api.OK})
	}
}

// P7.7: equal repeats have no noise, and their average is each of them; other ones have some.
func TestEqualRepeats(t *testing.T) {
	next := random(67)
	for i, h := range someResponses() {
		l := repeated(h, i%chamber.MaxRepeats+1)
		want(t, "Noise of equal repeats", 0)(chamber.Noise(l))
		var average []api.Ratio
		for _, x := range h {
			average = append(average, ratio(x, 1))
		}
		want(t, "Average of equal repeats", average)(chamber.Average(l))
		if len(h) == 0 || len(l) == 1 {
			continue
		}
		other := slices.Clone(h)
		at := next(0, len(h)-1)
		other[at] -= max(-1, min(other[at], 1)) // nearer to 0
		if other[at] == h[at] {
			other[at] = 1
		}
		l[len(l)-1] = other
		want(t, "Noise of other repeats", len(l)*(len(l)-1))(chamber.Noise(l))
	}
}

// P7.7: turned directions have the turned pattern, and come back.
func TestTurnedDirections(t *testing.T) {
	next := random(71)
	for range 50 {
		l := drawSome(next, 8, next(0, 9), 50)
		own := of[pattern](t)(chamber.Pattern(l))
		for by := range chamber.Directions {
			var wanted pattern
			for angle, x := range own {
				wanted[(angle+by)%8] = x
			}
			turned := of[[][]int](t)(chamber.Turn(l, by))
			want(t, "Pattern of turned directions", wanted)(chamber.Pattern(turned))
			want(t, "Turn back", l)(chamber.Turn(turned, (8-by)%8))
		}
	}
}

// P7.7: responses are parsed as they were printed.
func TestTextsComeBack(t *testing.T) {
	for _, h := range someResponses() {
		want(t, "Parse", h)(chamber.Parse(of[string](t)(chamber.Print(h))))
	}
}

// P7.1 to P7.6, the rule Memory: arguments are not modified, and results share no memory with them or with each other.
func TestMemory(t *testing.T) {
	h, weights := append(make([]int, 0, 9), 3, -1, 2), append(make([]int, 0, 9), 1, 1, 1)
	samples := list[float32](1, 2, 3, 4)
	l := repeated(h, chamber.Directions)
	results := func() (text string, change func()) {
		a, b, _ := chamber.Answers(h, 1)
		deconvolved := of[[]int](t)(chamber.Deconvolve(h, h, 1))
		estimate := of[[]int](t)(chamber.Estimate(h, h, 1))
		quotient := of[[]int](t)(chamber.Divide(h, list(1)))
		average := of[[]api.Ratio](t)(chamber.Average(l))
		gated, _, _ := chamber.Gate(h, 0, 3)
		cut, _, _ := chamber.Gate(h, 1, 2)
		window := of[[]int](t)(chamber.Window("flat", 3))
		weighed := of[[]int](t)(chamber.Weigh(h, weights))
		decay := of[[]int](t)(chamber.Decay(h))
		turned := of[[][]int](t)(chamber.Turn(l, 0))
		parsed := of[[]int](t)(chamber.Parse("3 -1 2"))
		chamber.Noise(l)
		chamber.Falls(h, ratio(1, 2))
		chamber.Arrival(h, 1)
		chamber.Reflection(h, weights, 0)
		chamber.Orders(samples)
		chamber.Distortion(samples)
		chamber.Pattern(l)
		chamber.Directivity(l)
		chamber.Print(h)
		return fmt.Sprint(a, b, deconvolved, estimate, quotient, average, gated, cut, window, weighed, decay, turned, parsed), func() {
			for _, x := range append(turned, a, b, deconvolved, estimate, quotient, gated, cut, window, weighed, decay, parsed) {
				same(t, "results do not share memory", slices.Contains(x, 77), false)
				x[0], x[1], x[2] = 77, 77, 77
			}
			average[0].Num = 77
		}
	}
	before := fmt.Sprint(h[:9], weights[:9], samples, l)
	wanted, change := results()
	same(t, "arguments", fmt.Sprint(h[:9], weights[:9], samples, l), before)
	change()
	same(t, "arguments behind a change of results", fmt.Sprint(h[:9], weights[:9], samples, l), before)
	text, _ := results()
	same(t, "results behind it", text, wanted)
}

// P1: no function panics, whatever its arguments are.
func TestNothingPanics(t *testing.T) {
	numbers := []int{math.MinInt, math.MinInt32, -level - 1, -1, 0, 1, 2, 3, 4, 7, 8, 64, 65, 256, 257, level, level + 1, math.MaxInt32, math.MaxInt}
	for _, a := range numbers {
		for _, b := range numbers {
			for _, h := range [][]int{nil, list(0), list(a), list(0, a), list(b, a, 1), list(level, level, -level), make([]int, 257), repeated(a, 4097)} {
				chamber.CheckResponse(h)
				chamber.Answers(h, a)
				chamber.Deconvolve(h, list(a, b), b)
				chamber.Deconvolve(list(b, a), h, a)
				chamber.Estimate(h, h, a)
				chamber.Divide(h, list(a, b))
				chamber.Divide(list(a, b), h)
				chamber.Gate(h, a, b)
				chamber.Weigh(h, list(a, b))
				chamber.Weigh(list(b), h)
				chamber.Arrival(h, a)
				chamber.Reflection(h, list(b), a)
				chamber.Decay(h)
				chamber.Falls(h, ratio(a, b))
				chamber.Print(h)
			}
			for _, n := range []int{0, 1, 2, 7, 8, 16, 17} {
				for _, l := range [][][]int{make([][]int, n), repeated(list(a, b), n), append(make([][]int, n), list(a))} {
					chamber.Average(l)
					chamber.Noise(l)
					chamber.Pattern(l)
					chamber.Directivity(l)
					chamber.Turn(l, b)
				}
			}
			chamber.Resolution(a, b)
			chamber.Window("bell", a)
			chamber.Window("\xff", b)
			x, y := float32(a), math.Float32frombits(uint32(b))
			chamber.Merge(signal.Block{x, y}, signal.Block{y, nan, x}, a)
			chamber.Merge(signal.Block{1}, signal.Block{x}, b)
			chamber.Orders(list(x, y, x, nan))
			chamber.Distortion(list(y, y, y))
			chamber.Distortion(list(1, 1, 1, x))
		}
	}
	chamber.Parse("\xff \x00 1 2 3 4\n\n")
	chamber.Parse(" ")
}
