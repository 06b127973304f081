package chamber_test

import (
	"math"
	"math/big"
	"testing"

	"woofer/api"
	"woofer/chamber"
	"woofer/signal"
)

var (
	nan      = float32(math.NaN())
	infinite = float32(math.Inf(1))
	minus    = float32(math.Copysign(0, -1))
)

// merges requires the results of Merge.
func merges(t *testing.T, near, far signal.Block, at int, spectrum signal.Spectrum, mismatch float64) {
	t.Helper()
	got, gotMismatch, e := chamber.Merge(near, far, at)
	same(t, "Merge: error", e, api.OK)
	if got != spectrum || gotMismatch != mismatch {
		t.Errorf("Merge: got %v, %v, want %v, %v", got, gotMismatch, spectrum, mismatch)
	}
}

// P7.4: Merge of the chapter's example, and of others; at the limits, too.
func TestMerge(t *testing.T) {
	near, far := signal.Block{1, 2, 3, 4}, signal.Block{1, 0, -1, 0}
	merges(t, near, far, 1, signal.Spectrum{10, 2, 0, 2}, 20)
	merges(t, near, far, 2, signal.Spectrum{10, -2 + 2i, 0, -2 - 2i}, 4)
	merges(t, far, near, 1, signal.Spectrum{0, -2 + 2i, -2, -2 - 2i}, 20)
	merges(t, far, near, 2, signal.Spectrum{0, 2, -2, 2}, 4)
	merges(t, near, near, 1, signal.Spectrum{10, -2 + 2i, -2, -2 - 2i}, 0)
	merges(t, signal.Block{}, signal.Block{minus, 0, minus, 0}, 2, signal.Spectrum{}, 0)
	// Small samples beside the greatest ones: nothing is rounded.
	const most, part = 2048, 0.0625
	high, low := signal.Block{most, -most, most, -most}, signal.Block{-most, most, -most, most - part}
	merges(t, high, low, 2, signal.Spectrum{0, 0, -8192 + part, 0}, (16384-part)*(16384-part))
	high, low = signal.Block{most, most, -most, -most}, signal.Block{-most, -most, most, most - part}
	merges(t, high, low, 1, signal.Spectrum{0, complex(-4096, 4096-part), part, complex(-4096, -4096+part)}, 8192*8192+(8192-part)*(8192-part))
}

// P7.4: Merge against waves as complex numbers.
func TestMergesOfWaves(t *testing.T) {
	next := random(31)
	for range 1000 {
		most := list(16, 100, 32768)[next(0, 2)]
		near, far := signal.Block(drawSamples(next, 4, most)), signal.Block(drawSamples(next, 4, most))
		low, high := spectrumOf(near), spectrumOf(far)
		for at := 1; at <= 2; at++ {
			from := [][4]complex128{{low[0], high[1], high[2], high[3]}, {low[0], low[1], high[2], low[3]}}[at-1]
			var wanted signal.Spectrum
			for k, z := range from {
				wanted[k] = complex64(z)
			}
			merges(t, near, far, at, wanted, levelOf(low[at]-high[at]))
		}
	}
}

// P7.4: the errors of Merge, in their order.
func TestWrongMerges(t *testing.T) {
	good := signal.Block{1, 2, 3, 4}
	numbers := []int{0, -1, 3, 4, math.MinInt, math.MaxInt}
	bad := func(near, far signal.Block, at int, e api.Errno) {
		t.Helper()
		failsBoth[signal.Spectrum, float64](t, "Merge", e)(chamber.Merge(near, far, at))
	}
	for _, x := range wrongBlocks() {
		for _, at := range append(numbers, 1, 2) {
			bad(x.b, good, at, x.e)
			bad(good, x.b, at, x.e)
			bad(x.b, signal.Block{nan}, at, x.e)
			bad(x.b, signal.Block{3000}, at, x.e)
		}
	}
	for _, at := range numbers {
		bad(good, good, at, api.ErrRange)
		bad(signal.Block{}, signal.Block{}, at, api.ErrRange)
	}
}

// wrongBlock is a block with its error.
type wrongBlock struct {
	b signal.Block
	e api.Errno
}

func wrongBlocks() []wrongBlock {
	blocks := []wrongBlock{{signal.Block{1, nan, 3000, 0}, api.ErrForm}, {signal.Block{1, 3000, nan, 0}, api.ErrRange}}
	for i := range signal.Size {
		for x, e := range map[float32]api.Errno{infinite: api.ErrForm, -infinite: api.ErrForm, 2048.0625: api.ErrRange, -2048.0625: api.ErrRange, 0.03125: api.ErrRange, math.MaxFloat32: api.ErrRange, math.SmallestNonzeroFloat32: api.ErrRange} {
			var b signal.Block
			b[i] = x
			blocks = append(blocks, wrongBlock{b, e})
		}
		var b signal.Block
		b[i] = nan
		blocks = append(blocks, wrongBlock{b, api.ErrForm})
	}
	return blocks
}

// P7.4: Orders and Distortion of the chapter's example, and of others; at the limits, too.
func TestOrders(t *testing.T) {
	silence, part := make([]float32, 4), float32(0.0625)
	for _, x := range []struct {
		l          []float32
		orders     [3]float64
		distortion api.Ratio
	}{
		{list[float32](1, 2, 3, 4), [3]float64{100, 8, 4}, ratio(1, 4)},
		{append(silence, 1, 2, 3, 4), [3]float64{100, 8, 4}, ratio(1, 4)},
		{append(list[float32](1, 2, 3, 4), silence...), [3]float64{100, 8, 4}, ratio(1, 4)},
		{list[float32](1, 2, 3, 4, 1, 0, -1, 0), [3]float64{100, 12, 4}, ratio(1, 6)},
		{list[float32](1, 0, -1, 0), [3]float64{0, 4, 0}, ratio(0, 1)},
		{list(part, 0, 0, 0), [3]float64{0.00390625, 0.00390625, 0.00390625}, ratio(1, 2)},
		{list(0, 2048, 0, -2048+part), [3]float64{0.00390625, (4096 - 0.0625) * (4096 - 0.0625), 0.00390625}, ratio(1, 2*65535*65535)},
		// A small order 1 beside the greatest order 2.
		{list(2048, -2048, 2048-part, -2048), [3]float64{0.00390625, 0.00390625, (8192 - 0.0625) * (8192 - 0.0625)}, ratio(131071*131071, 2)},
		{repeated[float32](-2048, chamber.MaxBlock-4), [3]float64{255 * 8192 * 8192, 0, 0}, api.Ratio{}},
		{repeated[float32](-2048, chamber.MaxBlock), [3]float64{256 * 8192 * 8192, 0, 0}, api.Ratio{}},
		{list[float32](2, -2, 2, -2), [3]float64{0, 0, 64}, api.Ratio{}},
		{nil, [3]float64{}, api.Ratio{}},
		{repeated(minus, 8), [3]float64{}, api.Ratio{}},
		{make([]float32, chamber.MaxBlock), [3]float64{}, api.Ratio{}},
	} {
		want(t, "Orders", x.orders)(chamber.Orders(x.l))
		if x.orders[1] == 0 {
			fails[api.Ratio](t, "Distortion", api.ErrZero)(chamber.Distortion(x.l))
		} else {
			want(t, "Distortion", x.distortion)(chamber.Distortion(x.l))
		}
	}
}

// P7.4: Orders and Distortion against waves as complex numbers.
func TestOrdersOfWaves(t *testing.T) {
	next := random(37)
	for range 200 {
		l := drawSamples(next, 4*list(1, 2, next(0, 9), chamber.MaxBlock/4)[next(0, 3)], list(1, 40, 32768)[next(0, 2)])
		var orders [3]float64
		for i := 0; i < len(l); i += 4 {
			s := spectrumOf(signal.Block(l[i : i+4]))
			for k := range orders {
				orders[k] += levelOf(s[k])
			}
		}
		want(t, "Orders", orders)(chamber.Orders(l))
		if orders[1] == 0 {
			fails[api.Ratio](t, "Distortion", api.ErrZero)(chamber.Distortion(l))
			continue
		}
		x := new(big.Rat).SetFloat64(orders[2])
		x.Quo(x, new(big.Rat).SetFloat64(2*orders[1]))
		want(t, "Distortion", ratio(int(x.Num().Int64()), int(x.Denom().Int64())))(chamber.Distortion(l))
	}
}

// P7.4: the errors of samples, in their order.
func TestWrongOrders(t *testing.T) {
	bad := func(l []float32, e api.Errno) {
		t.Helper()
		fails[[3]float64](t, "Orders", e)(chamber.Orders(l))
		fails[api.Ratio](t, "Distortion", e)(chamber.Distortion(l))
	}
	for _, n := range []int{1, 2, 3, 4} {
		bad(make([]float32, chamber.MaxBlock+n), api.ErrMany)
		bad(repeated(nan, chamber.MaxBlock+n), api.ErrMany)
	}
	for _, n := range []int{1, 2, 3, 5, 1021, 1022, 1023} {
		bad(make([]float32, n), api.ErrShape)
		bad(repeated(nan, n), api.ErrShape)
	}
	for _, x := range wrongBlocks() {
		bad(x.b[:], x.e)
		bad(append(list[float32](1, 2, 3, 4), x.b[:]...), x.e)
		bad(append(make([]float32, chamber.MaxBlock-4), x.b[:]...), x.e)
		bad(append(x.b[:], 0, nan, 0, 3000), x.e)
		bad(append(x.b[:], 3000, nan, 0, 0), x.e)
	}
}
