package chamber_test

import (
	"slices"
	"testing"

	"woofer/api"
	"woofer/chamber"
)

// P7.1: CheckResponse, with its length and each number at their limits and beyond them.
func TestCheckResponse(t *testing.T) {
	for _, h := range someResponses() {
		same(t, "CheckResponse", chamber.CheckResponse(h), api.OK)
	}
	for _, x := range wrongResponses() {
		same(t, "CheckResponse", chamber.CheckResponse(x.l), x.e)
	}
}

// answer requires that a response has these answers to the pair of a length, and is explained by them.
func answer(t *testing.T, h []int, n int, a, b []int) {
	t.Helper()
	want(t, "Answers", two{a, b})(both(chamber.Answers(h, n)))
	want(t, "Deconvolve", h)(chamber.Deconvolve(a, b, n))
	want(t, "Estimate", h)(chamber.Estimate(a, b, n))
}

// P7.1: Answers of the chapter's example, and of others.
func TestAnswers(t *testing.T) {
	answer(t, exampleH(), 2, list(3, 2, -1), list(3, -4, 1))
	answer(t, exampleH(), 1, exampleH(), exampleH())
	answer(t, list(5), 4, list(5, 5, 5, -5), list(5, 5, -5, 5))
	answer(t, list(0, 0, 2), 2, list(0, 0, 2, 2), list(0, 0, 2, -2))
	answer(t, list(0), 2, list(0, 0), list(0, 0))
	answer(t, list(1, -1, 2), 4, list(1, 0, 2, 0, 3, -2), list(1, 0, 0, 4, -3, 2))
	for _, n := range pairLengths {
		p, q := pairOf(n)
		answer(t, list(1), n, p, q)
		answer(t, nil, n, nil, nil)
		for _, h := range someResponses() {
			a, b := productOf(h, p), productOf(h, q)
			if isSequence(a) && isSequence(b) {
				answer(t, h, n, a, b)
			} else {
				failsBoth[[]int, []int](t, "Answers", api.ErrLarge)(chamber.Answers(h, n))
			}
		}
	}
}

// isSequence reports whether no integer is beyond those of a sequence.
func isSequence(l []int) bool {
	return !slices.ContainsFunc(l, func(x int) bool { return x < -level || x > level })
}

// P7.1: answers at the limits, and beyond them in one of both only.
func TestLargeAnswers(t *testing.T) {
	const half = level / 2
	answer(t, list(level), 64, productOf(list(level), first(pairOf(64))), productOf(list(level), second(pairOf(64))))
	answer(t, list(half, half), 2, list(half, level, half), list(half, 0, -half))
	answer(t, list(half, -half), 2, list(half, 0, -half), list(half, -level, half))
	answer(t, repeated(-level, longest), 1, repeated(-level, longest), repeated(-level, longest))
	for _, h := range [][]int{{half + 1, half}, {half, half + 1}, {-half - 1, -half}, {half + 1, -half}, {-half, half + 1}, {level, level}, {level, -level}, {0, 1, level}} {
		failsBoth[[]int, []int](t, "Answers", api.ErrLarge)(chamber.Answers(h, 2))
	}
}

func first(a, _ []int) []int  { return a }
func second(_, b []int) []int { return b }

// P7.1: the errors of the arguments of Answers, from left to right.
func TestWrongAnswers(t *testing.T) {
	for _, x := range wrongResponses() {
		for _, n := range append(wrongPairLengths, pairLengths...) {
			failsBoth[[]int, []int](t, "Answers", x.e)(chamber.Answers(x.l, n))
		}
	}
	for _, n := range wrongPairLengths {
		for _, h := range [][]int{nil, exampleH(), {level, level}, make([]int, longest)} {
			failsBoth[[]int, []int](t, "Answers", api.ErrRange)(chamber.Answers(h, n))
		}
	}
}

// P7.1: sequences that no response explains: those of the chapter's example, answers with one change, and others.
func TestDeconvolveConflicts(t *testing.T) {
	conflict := fails[[]int](t, "Deconvolve", api.ErrConflict)
	conflict(chamber.Deconvolve(list(3, 3, -1), list(3, -4, 1), 2))
	want(t, "Estimate", exampleH())(chamber.Estimate(list(3, 3, -1), list(3, -4, 1), 2))
	conflict(chamber.Deconvolve(list(1), list(2), 1))
	conflict(chamber.Deconvolve(list(1, 1), list(1, 1), 2))
	conflict(chamber.Deconvolve(list(1, 0), list(1, 0), 2))
	// The estimate has answers that are too large.
	conflict(chamber.Deconvolve(repeated(level, 3), list(level, 0, -level), 2))
	conflict(chamber.Deconvolve(list(level, 0, -level), list(level, -level, level), 2))
	next := random(13)
	for _, n := range pairLengths {
		p, q := pairOf(n)
		h := draw(next, next(1, 5), 9)
		for i := range len(h) + n - 1 {
			a, b := productOf(h, p), productOf(h, q)
			a[i]++
			conflict(chamber.Deconvolve(a, b, n))
			want(t, "Estimate", estimateOf(a, b, n))(chamber.Estimate(a, b, n))
			a[i]--
			b[i] -= next(1, 5)
			conflict(chamber.Deconvolve(a, b, n))
			want(t, "Estimate", estimateOf(a, b, n))(chamber.Estimate(a, b, n))
		}
	}
}

// P7.1: Estimate rounds to the nearest integer, halves up.
func TestEstimateRounds(t *testing.T) {
	for sum, rounded := range map[int]int{0: 0, 1: 1, 2: 1, 3: 2, -1: 0, -2: -1, -3: -1, -4: -2, -5: -2, 2*level - 1: level, -2*level + 1: -level + 1} {
		want(t, "Estimate", list(rounded))(chamber.Estimate(list(sum/2), list(sum-sum/2), 1))
	}
	for sum, rounded := range map[int]int{0: 0, 1: 0, 2: 1, 3: 1, 5: 1, 6: 2, -1: 0, -2: 0, -3: -1, -5: -1, -6: -1, -7: -2} {
		want(t, "Estimate", list(rounded))(chamber.Estimate(list(sum, 0), list(0, 0), 2))
		want(t, "Estimate", list(rounded))(chamber.Estimate(list(0, 0), list(0, -sum), 2))
	}
	for sum, rounded := range map[int]int{63: 0, 64: 1, 191: 1, 192: 2, -64: 0, -65: -1, -192: -1, -193: -2} {
		want(t, "Estimate", list(rounded))(chamber.Estimate(append(list(sum), make([]int, 63)...), make([]int, 64), 64))
	}
}

// P7.1: Estimate against the definition; with the greatest numbers, and the longest sequences, too.
func TestEstimate(t *testing.T) {
	next := random(17)
	for _, n := range pairLengths {
		p, q := pairOf(n)
		for _, factor := range []int{level, -level} {
			want(t, "Estimate", list(factor))(chamber.Estimate(productOf(list(factor), p), productOf(list(factor), q), n))
		}
		for _, most := range []int{1, 9, level} {
			for _, length := range []int{n, n + 1, n + next(2, 40), n + longest - 1} {
				a, b := draw(next, length, most), draw(next, length, most)
				want(t, "Estimate", estimateOf(a, b, n))(chamber.Estimate(a, b, n))
			}
		}
	}
}

// P7.1: the errors of Deconvolve and Estimate, in their order.
func TestWrongDeconvolutions(t *testing.T) {
	bad := func(a, b []int, n int, e api.Errno) {
		t.Helper()
		fails[[]int](t, "Deconvolve", e)(chamber.Deconvolve(a, b, n))
		fails[[]int](t, "Estimate", e)(chamber.Estimate(a, b, n))
	}
	for _, x := range wrongSequences() {
		for _, n := range []int{0, 1, 2, 64, 65} {
			bad(x.l, nil, n, x.e)
			bad(nil, x.l, n, x.e)
			bad(make([]int, 1000), x.l, n, x.e)
			bad(x.l, repeated(level+1, api.MaxLength+1), n, x.e)
		}
	}
	for _, n := range wrongPairLengths {
		bad(list(3, 2, -1), list(3, -4, 1), n, api.ErrRange)
		bad(nil, nil, n, api.ErrRange)
		bad(nil, list(1), n, api.ErrRange)
		bad(make([]int, api.MaxLength), make([]int, api.MaxLength), n, api.ErrRange)
	}
	for _, n := range pairLengths {
		bad(make([]int, n), make([]int, n+1), n, api.ErrShape)
		bad(make([]int, n+1), make([]int, n), n, api.ErrShape)
		bad(nil, make([]int, n), n, api.ErrShape)
		bad(make([]int, n), nil, n, api.ErrShape)
		bad(make([]int, api.MaxLength), make([]int, api.MaxLength-1), n, api.ErrShape)
		for length := 1; length < n; length++ {
			bad(make([]int, length), make([]int, length), n, api.ErrShape)
		}
		most := n + longest - 1
		want(t, "Estimate", make([]int, longest))(chamber.Estimate(make([]int, most), make([]int, most), n))
		want(t, "Deconvolve", make([]int, longest))(chamber.Deconvolve(make([]int, most), make([]int, most), n))
		bad(make([]int, most+1), make([]int, most+1), n, api.ErrMany)
		bad(repeated(1, most+1), make([]int, most+1), n, api.ErrMany)
		bad(make([]int, api.MaxLength), make([]int, api.MaxLength), n, api.ErrMany)
	}
}

// P7.1: Divide of the chapter's example, and of others.
func TestDivide(t *testing.T) {
	for _, x := range []struct{ y, a, q []int }{
		{list(3, 2, -1), list(1, 1), exampleH()},
		{list(3, 2, -1), exampleH(), list(1, 1)},
		{list(3, 2, -1), list(3, 2, -1), list(1)},
		{list(3, 2, -1), list(-1), list(-3, -2, 1)},
		{list(6, -9, 0), list(3), list(2, -3, 0)},
		{list(0, 0), list(7, 9), list(0)},
		{nil, list(1), nil},
		{nil, list(2, 3, 4), nil},
		{list(0, 0, 4, 2, 0), list(2, 1, 0), list(0, 0, 2)},
		{list(1, 0, 0, 0, -1), list(1, -1), list(1, 1, 1, 1)},
		{list(2, 0, 0, 0, -2), list(-1, 1), list(-2, -2, -2, -2)},
		{list(level, -level), list(-level, level), list(-1)},
		{list(level, -level), list(-1), list(-level, level)},
		{list(level, level, 0), list(1, 1), list(level, 0)},
		{repeated(level, api.MaxLength), list(-1), repeated(-level, api.MaxLength)},
		{repeated(level, api.MaxLength), repeated(1, api.MaxLength), list(level)},
		{append(list(1), make([]int, 4094)...), append(list(-1), make([]int, 2047)...), append(list(-1), make([]int, 2047)...)},
	} {
		want(t, "Divide", x.q)(chamber.Divide(x.y, x.a))
	}
}

// P7.1: sequences that are not divided: what is left behind the quotient, elements that are no integers or too large, and
// the first one of both.
func TestDivideConflicts(t *testing.T) {
	for _, x := range []struct {
		y, a []int
		e    api.Errno
	}{
		{list(3, 2, 0), list(1, 1), api.ErrConflict},
		{list(3, 2, -2), list(1, 1), api.ErrConflict},
		{list(0, 1), list(1, 0), api.ErrConflict},
		{list(2, 1), list(2, 2), api.ErrConflict},
		{list(1), list(2), api.ErrConflict},
		{list(-1), list(2), api.ErrConflict},
		{list(4, 3), list(-2), api.ErrConflict},
		{list(4, 2, 1), list(4, 1), api.ErrConflict},
		// At the limit, and beyond it.
		{list(level, 0, level), list(1, 1), api.ErrConflict},
		{list(level, -1, level), list(1, 1), api.ErrLarge},
		{list(-level, -1, 0), list(1, -1), api.ErrLarge},
		{list(level, 1, 0), list(1, -1), api.ErrLarge},
		// An element that is too large and no integer, and what comes first of both.
		{list(4, level, 0), list(2, -level), api.ErrLarge},
		{list(4, level-1, 0), list(2, -level), api.ErrConflict},
		{list(4, level, 1, 0), list(2, -level), api.ErrLarge},
		{list(4, 1, level, 0), list(2, -level), api.ErrConflict},
		// What the quotient leaves is far beyond all sequences.
		{list(level, 0), list(1, level), api.ErrConflict},
		{append(list(level), make([]int, 2048)...), append(list(1), repeated(level, 2048)...), api.ErrConflict},
	} {
		fails[[]int](t, "Divide", x.e)(chamber.Divide(x.y, x.a))
	}
}

// P7.1: the errors of Divide, in their order.
func TestWrongDivisions(t *testing.T) {
	bad := func(y, a []int, e api.Errno) {
		t.Helper()
		fails[[]int](t, "Divide", e)(chamber.Divide(y, a))
	}
	for _, x := range wrongSequences() {
		bad(x.l, nil, x.e)
		bad(x.l, list(0), x.e)
		bad(x.l, list(1), x.e)
		bad(x.l, repeated(level+1, api.MaxLength+1), x.e)
		bad(nil, x.l, x.e)
		bad(list(1), x.l, x.e)
	}
	bad(nil, nil, api.ErrEmpty)
	bad(list(1, 2), nil, api.ErrEmpty)
	for _, a := range [][]int{{0}, {0, 1}, {0, 0, 0}, make([]int, api.MaxLength)} {
		bad(nil, a, api.ErrSingular)
		bad(list(1), a, api.ErrSingular)
		bad(list(0, 0, 0, 0), a, api.ErrSingular)
	}
	bad(list(1), list(1, 0), api.ErrShape)
	bad(list(1), list(2, 1), api.ErrShape)
	bad(make([]int, api.MaxLength-1), repeated(1, api.MaxLength), api.ErrShape)
}

// P7.1: Divide against a division by hand in rational numbers, of products and of others.
func TestDivideByHand(t *testing.T) {
	next := random(19)
	count := map[api.Errno]int{}
	for range 2000 {
		most := list(2, 3, 50, level)[next(0, 3)]
		a := append(list(list(1, -1, 2, -3, most)[next(0, 4)]), draw(next, next(0, 4), most)...)
		y := draw(next, len(a)+next(0, 4), most)
		if next(0, 1) == 0 {
			y = productOf(draw(next, next(1, 6), 9), a)
		}
		if !isSequence(y) {
			continue
		}
		q, e := byHand(y, a)
		if e == api.OK {
			want(t, "Divide", q)(chamber.Divide(y, a))
		} else {
			fails[[]int](t, "Divide", e)(chamber.Divide(y, a))
		}
		count[e]++
	}
	same(t, "enough of all sorts", min(count[api.OK], count[api.ErrConflict], count[api.ErrLarge]) > 20, true)
}

// byHand returns the quotient of sequences without an error, or its error.
func byHand(y, a []int) ([]int, api.Errno) {
	quotient, rest := long(y, a)
	var q []int
	for _, x := range quotient {
		if !x.IsInt() {
			return nil, api.ErrConflict
		}
		if !x.Num().IsInt64() || !isSequence(list(int(x.Num().Int64()))) {
			return nil, api.ErrLarge
		}
		q = append(q, int(x.Num().Int64()))
	}
	for _, x := range rest {
		if x.Sign() != 0 {
			return nil, api.ErrConflict
		}
	}
	return q, api.OK
}
