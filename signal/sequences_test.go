package signal_test

import (
	"math"
	"slices"
	"strings"
	"testing"

	"woofer/api"
	"woofer/signal"
)

const level = signal.MaxLevel

// P1.3: CheckSequence.
func TestCheckSequence(t *testing.T) {
	for _, l := range [][]int{nil, {}, {0}, {level, -level}, repeated(-level, api.MaxLength)} {
		equal(t, "CheckSequence", signal.CheckSequence(l), api.OK)
	}
	for _, x := range wrongSequences() {
		equal(t, x.what, signal.CheckSequence(x.l), x.e)
	}
}

// P1.3: Convolve.
func TestConvolve(t *testing.T) {
	long := make([]int, api.MaxLength)
	long[0], long[api.MaxLength-1] = 5, 7
	for _, x := range []struct {
		what      string
		a, b, out []int
		e         api.Errno
	}{
		{"example", []int{1, 2, 3}, []int{1, -1}, []int{1, 1, 1, -3}, api.OK},
		{"nothing first", nil, []int{1, 2}, nil, api.OK},
		{"nothing second", []int{1, 2}, nil, nil, api.OK},
		{"nothing", nil, nil, nil, api.OK},
		{"nothing and the longest", nil, long, nil, api.OK},
		{"single ones", []int{-3}, []int{4}, []int{-12}, api.OK},
		{"zeros stay", []int{0, 1, 0}, []int{0, 0}, []int{0, 0, 0, 0}, api.OK},
		{"as long as permitted", long, []int{-1}, append(append([]int{-5}, make([]int, api.MaxLength-2)...), -7), api.OK},
		{"halves", make([]int, 2048), make([]int, 2049), make([]int, 4096), api.OK},
		{"too long", make([]int, 2049), make([]int, 2049), nil, api.ErrMany},
		{"too long by one", long, []int{level, level}, nil, api.ErrMany},
		{"greatest", []int{1 << 19}, []int{2}, []int{level}, api.OK},
		{"least", []int{-1 << 10}, []int{1 << 10}, []int{-level}, api.OK},
		{"too large", []int{level}, []int{0, 2}, nil, api.ErrLarge},
		{"too small", []int{level}, []int{1, -2}, nil, api.ErrLarge},
		{"sum too large", []int{level, 1}, []int{1, 1}, nil, api.ErrLarge},
		{"sum too small", []int{-level, -1}, []int{1, 1}, nil, api.ErrLarge},
		{"large on the way", []int{level, level}, []int{level, -level}, nil, api.ErrLarge},
		{"large products cancel", []int{level, level, 0}, []int{0, 1, -1}, []int{0, level, 0, -level, 0}, api.OK},
		{"all extreme", repeated(level, 2048), repeated(-level, 2049), nil, api.ErrLarge},
	} {
		l, e := signal.Convolve(x.a, x.b)
		equalList(t, "Convolve: "+x.what, l, x.out)
		equal(t, "Convolve: "+x.what, e, x.e)
	}
	testPairsOfWrongSequences(t, "Convolve", signal.Convolve)
}

// testPairsOfWrongSequences tests that the first of two sequences with an error decides.
func testPairsOfWrongSequences(t *testing.T, what string, f func(a, b []int) ([]int, api.Errno)) {
	t.Helper()
	longest := repeated(level, api.MaxLength)
	for _, x := range wrongSequences() {
		l, e := f(x.l, longest)
		equalList(t, what+": first: "+x.what, l, nil)
		equal(t, what+": first: "+x.what, e, x.e)
		l, e = f(longest, x.l)
		equalList(t, what+": second: "+x.what, l, nil)
		equal(t, what+": second: "+x.what, e, x.e)
		_, e = f(nil, x.l)
		equal(t, what+": nothing and "+x.what, e, x.e)
		for _, y := range wrongSequences() {
			_, e = f(x.l, y.l)
			equal(t, what+": "+x.what+" and "+y.what, e, x.e)
		}
	}
}

// P1.3: Correlate.
func TestCorrelate(t *testing.T) {
	for _, x := range []struct {
		what      string
		a, b, out []int
		e         api.Errno
	}{
		{"example", []int{1, 2}, []int{3, 4, 5}, []int{6, 11, 14, 5}, api.OK},
		{"exchanged", []int{3, 4, 5}, []int{1, 2}, []int{5, 14, 11, 6}, api.OK},
		{"first of a pair", []int{1, 1, 1, -1}, []int{1, 1, 1, -1}, []int{-1, 0, 1, 4, 1, 0, -1}, api.OK},
		{"second of a pair", []int{1, 1, -1, 1}, []int{1, 1, -1, 1}, []int{1, 0, -1, 4, -1, 0, 1}, api.OK},
		{"nothing first", nil, []int{1}, nil, api.OK},
		{"nothing second", []int{1}, nil, nil, api.OK},
		{"nothing", nil, nil, nil, api.OK},
		{"as long as permitted", make([]int, 2048), make([]int, 2049), make([]int, 4096), api.OK},
		{"too long", make([]int, 2049), make([]int, 2049), nil, api.ErrMany},
		{"too long and too large", repeated(level, 4096), []int{2, 2}, nil, api.ErrMany},
		{"greatest", []int{1 << 10, 1}, []int{0, 1 << 10}, []int{0, 1 << 10, level}, api.OK},
		{"too large", []int{1, level}, []int{1, 1}, nil, api.ErrLarge},
		{"too small", []int{-level}, []int{2}, nil, api.ErrLarge},
	} {
		l, e := signal.Correlate(x.a, x.b)
		equalList(t, "Correlate: "+x.what, l, x.out)
		equal(t, "Correlate: "+x.what, e, x.e)
	}
	testPairsOfWrongSequences(t, "Correlate", signal.Correlate)
}

// P1.3: each element of a correlation is the sum that defines it.
func TestCorrelateDefinition(t *testing.T) {
	a, b := drawn(3, 9, 50), drawn(4, 14, 50)
	l, e := signal.Correlate(a, b)
	equal(t, "Correlate", e, api.OK)
	equal(t, "length", len(l), len(a)+len(b)-1)
	for k := 1 - len(a); k < len(b); k++ {
		sum := 0
		for i, x := range a {
			if i+k >= 0 && i+k < len(b) {
				sum += x * b[i+k]
			}
		}
		equal(t, "element", l[k+len(a)-1], sum)
	}
}

// P1.3: Pair.
func TestPair(t *testing.T) {
	for _, x := range []struct {
		n    int
		a, b []int
	}{
		{1, []int{1}, []int{1}},
		{2, []int{1, 1}, []int{1, -1}},
		{4, []int{1, 1, 1, -1}, []int{1, 1, -1, 1}},
		{8, []int{1, 1, 1, -1, 1, 1, -1, 1}, []int{1, 1, 1, -1, -1, -1, 1, -1}},
	} {
		a, b, e := signal.Pair(x.n)
		equalList(t, "Pair", a, x.a)
		equalList(t, "Pair", b, x.b)
		equal(t, "Pair", e, api.OK)
	}
	for n := -70; n <= 260; n++ {
		a, b, e := signal.Pair(n)
		if slices.Contains([]int{1, 2, 4, 8, 16, 32, 64}, n) {
			equal(t, "Pair", e, api.OK)
			equal(t, "Pair: length", len(a), n)
			equal(t, "Pair: length", len(b), n)
			continue
		}
		equal(t, "Pair of another length", e, api.ErrRange)
		equal(t, "Pair of another length", len(a)+len(b), 0)
	}
	for _, n := range []int{math.MinInt, math.MaxInt, 1 << 32, 1 << 62} {
		_, _, e := signal.Pair(n)
		equal(t, "Pair of another length", e, api.ErrRange)
	}
}

// P1.3: each pair follows from the one before it.
func TestPairGrows(t *testing.T) {
	for n := 1; n < signal.MaxPair; n *= 2 {
		a, b, _ := signal.Pair(n)
		c, d, e := signal.Pair(2 * n)
		equal(t, "Pair", e, api.OK)
		equalList(t, "first", c, slices.Concat(a, b))
		equalList(t, "second", d, slices.Concat(a, opposites(b)))
	}
}

func opposites(l []int) []int {
	out := slices.Clone(l)
	for i := range out {
		out[i] = -out[i]
	}
	return out
}

// P1.3: Complementary.
func TestComplementary(t *testing.T) {
	a, b, _ := signal.Pair(64)
	spread := make([]int, api.MaxLength)
	spread[0], spread[api.MaxLength-1] = level, level
	turned := slices.Clone(spread)
	turned[api.MaxLength-1] = -level
	for _, x := range []struct {
		what string
		a, b []int
		is   bool
		e    api.Errno
	}{
		{"pair of 4", []int{1, 1, 1, -1}, []int{1, 1, -1, 1}, true, api.OK},
		{"pair of 64", a, b, true, api.OK},
		{"twice the pair", []int{2, 2}, []int{2, -2}, true, api.OK},
		{"single ones", []int{3}, []int{-5}, true, api.OK},
		{"single one and 0", []int{0}, []int{-5}, true, api.OK},
		{"pulse and 0", []int{0, 7, 0}, []int{0, 0, 0}, true, api.OK},
		{"one twice", []int{1, 1}, []int{1, 1}, false, api.OK},
		{"one wrong", []int{1, 1, 1, -1}, []int{1, 1, -1, -1}, false, api.OK},
		{"another factor", []int{1, 1}, []int{2, -2}, false, api.OK},
		{"only the outermost differ", []int{1, 0, 1}, []int{1, 0, 0}, false, api.OK},
		{"zeros", []int{0, 0}, []int{0, 0}, false, api.OK},
		{"one zero", []int{0}, []int{0}, false, api.OK},
		{"nothing", nil, nil, false, api.OK},
		{"nothing and something", nil, []int{1}, false, api.OK},
		{"something and nothing", []int{1}, nil, false, api.OK},
		{"lengths differ", []int{1}, []int{1, 1}, false, api.OK},
		{"lengths differ by zeros", []int{1, 0}, []int{1}, false, api.OK},
		{"longest, with sums beyond the limit", spread, turned, true, api.OK},
		{"longest, all extreme", repeated(level, api.MaxLength), repeated(-level, api.MaxLength), false, api.OK},
	} {
		is, e := signal.Complementary(x.a, x.b)
		equal(t, "Complementary: "+x.what, is, x.is)
		equal(t, "Complementary: "+x.what, e, x.e)
	}
	testPairsOfWrongSequences(t, "Complementary", func(a, b []int) ([]int, api.Errno) {
		is, e := signal.Complementary(a, b)
		equal(t, "Complementary beside an error", is, false)
		return nil, e
	})
}

// P1.3: Sequence.
func TestSequence(t *testing.T) {
	for _, x := range []struct {
		in  []float32
		out []int
	}{{[]float32{1, -0.5, 2}, []int{16, -8, 32}}, {[]float32{2048, -2048, 0.0625, -0.0625, minus}, []int{32768, -32768, 1, -1, 0}}, {nil, nil}} {
		l, e := signal.Sequence(record(x.in...))
		equal(t, "Sequence", e, api.OK)
		equalList(t, "Sequence", l, x.out)
	}
	for _, x := range wrongRecords() {
		l, e := signal.Sequence(x.r)
		equal(t, "Sequence: "+x.what, e, x.e)
		equalList(t, "Sequence: "+x.what, l, nil)
	}
}

// P1.3: OfSequence.
func TestOfSequence(t *testing.T) {
	r, e := signal.OfSequence("hum", 48, []int{16, -8, 32})
	equal(t, "OfSequence", e, api.OK)
	equalRecord(t, "OfSequence", r, hum())
	r, e = signal.OfSequence("hum", 48, []int{32768, -32768, 1, -1, 0, 32767})
	equal(t, "OfSequence up to the limits", e, api.OK)
	equalRecord(t, "OfSequence up to the limits", r, record(2048, -2048, 0.0625, -0.0625, 0, 2047.9375))
	r, e = signal.OfSequence("q", signal.MaxRate, nil)
	equal(t, "OfSequence of nothing", e, api.OK)
	equalRecord(t, "OfSequence of nothing", r, signal.Record{Name: "q", Rate: signal.MaxRate})
	r, e = signal.OfSequence("q", 1, make([]int, api.MaxLength))
	equal(t, "OfSequence of the longest", e, api.OK)
	equal(t, "OfSequence of the longest", len(r.Samples), api.MaxLength)

	for _, x := range []struct {
		what string
		name string
		rate int
		l    []int
		e    api.Errno
	}{
		{"name", "1", 48, nil, api.ErrName},
		{"name first", strings.Repeat("q", 25), 0, make([]int, 5000), api.ErrName},
		{"rate 0", "q", 0, nil, api.ErrRange},
		{"rate too high", "q", signal.MaxRate + 1, nil, api.ErrRange},
		{"rate first", "q", -1, make([]int, 5000), api.ErrRange},
		{"too large", "q", 48, []int{0, 32769}, api.ErrRange},
		{"too small", "q", 48, []int{-32769, 0}, api.ErrRange},
		{"largest", "q", 48, []int{level}, api.ErrRange},
		{"many before too large", "q", 48, repeated(40000, api.MaxLength+1), api.ErrMany},
	} {
		r, e := signal.OfSequence(x.name, x.rate, x.l)
		nothing(t, "OfSequence: "+x.what, r, e, x.e)
	}
	for _, x := range wrongSequences() {
		r, e := signal.OfSequence("q", 48, x.l)
		nothing(t, "OfSequence: "+x.what, r, e, x.e)
	}
}

// P1.3, the rule Memory.
func TestSequencesShareNothing(t *testing.T) {
	a, b := []int{1, 2, 3}, []int{4, 5}
	for what, f := range map[string]func(a, b []int) ([]int, api.Errno){"Convolve": signal.Convolve, "Correlate": signal.Correlate} {
		l, _ := f(a, b)
		l[0] = 99
		m, _ := f(a, []int{1})
		m[0] = 99
		equalList(t, what+": first", a, []int{1, 2, 3})
		equalList(t, what+": second", b, []int{4, 5})
	}
	signal.Complementary(a, a)
	equalList(t, "Complementary", a, []int{1, 2, 3})
	for n := 1; n <= signal.MaxPair; n *= 2 {
		c, d, _ := signal.Pair(n)
		before := slices.Clone(d)
		whole := c[:cap(c)]
		for i := range whole {
			whole[i] = 9
		}
		equalList(t, "Pair", d, before)
		_, again, _ := signal.Pair(n)
		equalList(t, "Pair again", again, before)
	}
}
