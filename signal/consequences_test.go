package signal_test

import (
	"math"
	"slices"
	"testing"

	"woofer/api"
	"woofer/signal"
)

// ok requires a result without an error.
func ok[T any](t *testing.T) func(x T, e api.Errno) T {
	return func(x T, e api.Errno) T {
		t.Helper()
		equal(t, "error", e, api.OK)
		return x
	}
}

// P1.6: a record is its part up to an index with the part from it on.
func TestPartsAppend(t *testing.T) {
	ok := ok[signal.Record](t)
	r := drawnRecord(t, 11, 40, 32768)
	for i := range 41 {
		back := ok(signal.Append(ok(signal.Cut(r, 0, i)), ok(signal.Cut(r, i, 40))))
		equalRecord(t, "parts", back, r)
	}
}

// P1.6: mixes do not depend on the order but for the name, and go with parts.
func TestMixes(t *testing.T) {
	ok := ok[signal.Record](t)
	a, b := drawnRecord(t, 12, 30, 16384), drawnRecord(t, 13, 30, 16384)
	b.Name = "other"
	x, y := ok(signal.Mix(a, b)), ok(signal.Mix(b, a))
	equal(t, "first name", x.Name, "hum")
	equal(t, "second name", y.Name, "other")
	equal(t, "rate", x.Rate, y.Rate)
	equalList(t, "samples", x.Samples, y.Samples)
	for from := range 31 {
		for to := from; to <= 30; to++ {
			part := ok(signal.Mix(ok(signal.Cut(a, from, to)), ok(signal.Cut(b, from, to))))
			equalRecord(t, "part", part, ok(signal.Cut(x, from, to)))
		}
	}
}

// P1.6: convolution is commutative, associative and linear, and a delay of one sequence delays it.
func TestConvolutions(t *testing.T) {
	ok := ok[[]int](t)
	a, b, c, d := drawn(21, 12, 9), drawn(22, 7, 9), drawn(23, 5, 9), drawn(24, 7, 9)
	equalList(t, "commutative", ok(signal.Convolve(a, b)), ok(signal.Convolve(b, a)))
	equalList(t, "associative", ok(signal.Convolve(ok(signal.Convolve(a, b)), c)), ok(signal.Convolve(a, ok(signal.Convolve(b, c)))))
	combined := combination(3, b, -2, d)
	wanted := combination(3, ok(signal.Convolve(a, b)), -2, ok(signal.Convolve(a, d)))
	equalList(t, "linear", ok(signal.Convolve(a, combined)), wanted)
	zeros := make([]int, 6)
	delayed := slices.Concat(zeros, ok(signal.Convolve(a, b)))
	equalList(t, "first delayed", ok(signal.Convolve(slices.Concat(zeros, a), b)), delayed)
	equalList(t, "second delayed", ok(signal.Convolve(a, slices.Concat(zeros, b))), delayed)
}

// combination returns m times a plus n times b.
func combination(m int, a []int, n int, b []int) []int {
	out := make([]int, len(a))
	for i := range out {
		out[i] = m*a[i] + n*b[i]
	}
	return out
}

// P1.6: a delay of a record delays its sequence, and the convolution with it.
func TestDelayedRecord(t *testing.T) {
	r := hum()
	delayed := ok[signal.Record](t)(signal.Delay(r, 5))
	ok := ok[[]int](t)
	kernel := []int{2, -1, 3}
	wanted := slices.Concat(make([]int, 5), ok(signal.Convolve(ok(signal.Sequence(r)), kernel)))
	equalList(t, "delayed", ok(signal.Convolve(ok(signal.Sequence(delayed)), kernel)), wanted)
}

// P1.6: the pairs of all lengths are complementary, also changed.
func TestPairsAreComplementary(t *testing.T) {
	for n := 1; n <= signal.MaxPair; n *= 2 {
		a, b, e := signal.Pair(n)
		equal(t, "Pair", e, api.OK)
		for _, x := range [][2][]int{
			{a, b}, {b, a}, {opposites(a), b}, {a, opposites(b)}, {backwards(a), b}, {a, backwards(b)},
			{backwards(a), backwards(b)}, {backwards(b), opposites(backwards(a))},
		} {
			equal(t, "Complementary", ok[bool](t)(signal.Complementary(x[0], x[1])), true)
		}
		wrong := slices.Clone(b)
		wrong[0] = -wrong[0]
		equal(t, "Complementary with one element changed", ok[bool](t)(signal.Complementary(a, wrong)), n == 1)
	}
}

func backwards(l []int) []int {
	out := slices.Clone(l)
	slices.Reverse(out)
	return out
}

// P2: a sequence comes back from its convolutions with a complementary pair.
func TestSequencesComeBack(t *testing.T) {
	list := ok[[]int](t)
	l := drawn(31, 50, 1000)
	for n := 1; n <= signal.MaxPair; n *= 2 {
		a, b, _ := signal.Pair(n)
		x := list(signal.Correlate(a, list(signal.Convolve(l, a))))
		y := list(signal.Correlate(b, list(signal.Convolve(l, b))))
		sum := combination(1, x, 1, y)
		for i := range sum {
			wanted := 0
			if k := i - (n - 1); k >= 0 && k < len(l) {
				wanted = 2 * n * l[k]
			}
			equal(t, "element", sum[i], wanted)
		}
	}
}

// P1.6: a block comes back from its spectrum, whose energy is four times that of the block.
func TestBlocksComeBack(t *testing.T) {
	for key := 1; key <= 300; key++ {
		var b signal.Block
		for i, x := range drawn(key, 4, 32768) {
			b[i] = float32(x) / 16
		}
		s, e := signal.Transform(b)
		equal(t, "Transform", e, api.OK)
		back, e := signal.Back(s)
		equal(t, "Back", e, api.OK)
		equal(t, "Back", back, b)
		sum := 0.0
		for _, z := range s {
			re, im := float64(real(z)), float64(imag(z))
			sum += re*re + im*im
		}
		energy, e := signal.Energy(b[:])
		equal(t, "Energy", e, api.OK)
		equal(t, "energy of the spectrum", sum, 4*energy)
	}
}

// P1.6: records come back from their texts, streams and sequences.
func TestRecordsComeBack(t *testing.T) {
	for _, r := range []signal.Record{record(), hum(), drawnRecord(t, 41, 100, 32768), drawnRecord(t, 42, api.MaxLength, 32768), {Name: "Q_9", Rate: 192000}} {
		text, e := signal.Print(r)
		equal(t, "Print", e, api.OK)
		back, at, e := signal.Parse(text)
		equal(t, "Parse", e, api.OK)
		equal(t, "Parse", at, 0)
		equalRecord(t, "Parse", back, r)
		stream := ok[[]byte](t)(signal.Encode(r))
		equalRecord(t, "Decode", ok[signal.Record](t)(signal.Decode(stream)), r)
		l := ok[[]int](t)(signal.Sequence(r))
		equalRecord(t, "OfSequence", ok[signal.Record](t)(signal.OfSequence(r.Name, r.Rate, l)), r)
	}
}

// P1: no function panics, whatever its arguments are.
func TestNothingPanics(t *testing.T) {
	numbers := []int{math.MinInt, math.MinInt32, -1, 0, 1, 3, 4, 64, 4096, math.MaxInt32, math.MaxInt}
	records := []signal.Record{{}, hum(), record()}
	for _, x := range wrongRecords() {
		records = append(records, x.r)
	}
	for _, r := range records {
		signal.CheckRecord(r)
		signal.Sequence(r)
		signal.Print(r)
		signal.Encode(r)
		signal.Energy(r.Samples)
		for _, n := range numbers {
			signal.Scale(r, n)
			signal.Delay(r, n)
			for _, m := range numbers {
				signal.Cut(r, n, m)
			}
		}
		for _, s := range records {
			signal.Append(r, s)
			signal.Mix(r, s)
		}
	}
	for _, n := range numbers {
		signal.Pair(n)
		signal.OfSequence("a", n, numbers)
		signal.OfSequence("a", 1, []int{n})
		for _, m := range numbers {
			signal.Draw(n, m)
			signal.CheckRatio(api.Ratio{Num: n, Den: m})
			signal.Convolve([]int{n}, []int{m})
			signal.Correlate([]int{n}, []int{m})
			signal.Complementary([]int{n}, []int{m})
		}
	}
}
