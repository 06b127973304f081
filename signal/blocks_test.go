package signal_test

import (
	"math"
	"testing"

	"woofer/api"
	"woofer/signal"
)

// P1.4: Transform.
func TestTransform(t *testing.T) {
	for _, x := range []struct {
		b signal.Block
		s signal.Spectrum
	}{
		{signal.Block{1, 2, 3, 4}, signal.Spectrum{10, -2 + 2i, -2, -2 - 2i}},
		{signal.Block{}, signal.Spectrum{}},
		{signal.Block{minus, minus, minus, minus}, signal.Spectrum{}},
		{signal.Block{1}, signal.Spectrum{1, 1, 1, 1}},
		{signal.Block{0, 1}, signal.Spectrum{1, -1i, -1, 1i}},
		{signal.Block{0, 0, 1}, signal.Spectrum{1, -1, 1, -1}},
		{signal.Block{0, 0, 0, 1}, signal.Spectrum{1, 1i, -1, -1i}},
		{signal.Block{2048, 2048, 2048, 2048}, signal.Spectrum{8192}},
		{signal.Block{-2048, 2048, -2048, 2048}, signal.Spectrum{0, 0, -8192, 0}},
		{signal.Block{0.0625, -0.125, 2047.9375, 7}, signal.Spectrum{2054.875, -2047.875 + 7.125i, 2041.125, -2047.875 - 7.125i}},
	} {
		s, e := signal.Transform(x.b)
		equal(t, "Transform", e, api.OK)
		equal(t, "Transform", s, x.s)
	}
	for _, x := range []struct {
		b signal.Block
		e api.Errno
	}{
		{signal.Block{nan}, api.ErrForm},
		{signal.Block{0, 0, 0, -infinite}, api.ErrForm},
		{signal.Block{0, 0.01, nan}, api.ErrRange},
		{signal.Block{0, nan, 0.01}, api.ErrForm},
		{signal.Block{0, 0, 0, 2048.0625}, api.ErrRange},
		{signal.Block{-2048.0625}, api.ErrRange},
		{signal.Block{1, 1, 0.03125}, api.ErrRange},
	} {
		s, e := signal.Transform(x.b)
		equal(t, "Transform", e, x.e)
		equal(t, "Transform", s, signal.Spectrum{})
	}
}

// P1.4: Back.
func TestBack(t *testing.T) {
	for _, x := range []struct {
		s signal.Spectrum
		b signal.Block
	}{
		{signal.Spectrum{10, -2 + 2i, -2, -2 - 2i}, signal.Block{1, 2, 3, 4}},
		{signal.Spectrum{}, signal.Block{}},
		{signal.Spectrum{0.25}, signal.Block{0.0625, 0.0625, 0.0625, 0.0625}},
		{signal.Spectrum{0, -0.125i, 0, 0.125i}, signal.Block{0, 0.0625, 0, -0.0625}},
		{signal.Spectrum{8192}, signal.Block{2048, 2048, 2048, 2048}},
		{signal.Spectrum{0, 0, -8192}, signal.Block{-2048, 2048, -2048, 2048}},
		{signal.Spectrum{complex(0, minus), 4, complex(minus, minus), complex(4, minus)}, signal.Block{2, 0, -2, 0}},
	} {
		b, e := signal.Back(x.s)
		equal(t, "Back", e, api.OK)
		equal(t, "Back", b, x.b)
	}
}

// P1.4: the errors of Back, and their order.
func TestBackErrors(t *testing.T) {
	for _, x := range []struct {
		what string
		s    signal.Spectrum
		e    api.Errno
	}{
		{"NaN", signal.Spectrum{complex(nan, 0)}, api.ErrForm},
		{"NaN in the imaginary part", signal.Spectrum{0, 0, 0, complex(0, nan)}, api.ErrForm},
		{"infinite", signal.Spectrum{0, complex(infinite, 0)}, api.ErrForm},
		{"infinite below", signal.Spectrum{0, complex(0, -infinite)}, api.ErrForm},
		{"form before range in one value", signal.Spectrum{complex(0.01, nan)}, api.ErrForm},
		{"form before range in the other part", signal.Spectrum{complex(nan, 0.01)}, api.ErrForm},
		{"the first value decides", signal.Spectrum{9000, complex(nan, 0)}, api.ErrRange},
		{"the first value decides again", signal.Spectrum{complex(0, nan), 9000}, api.ErrForm},
		{"no multiple", signal.Spectrum{0.03125}, api.ErrRange},
		{"no multiple in the imaginary part", signal.Spectrum{0, 0.03125i, 0, -0.03125i}, api.ErrRange},
		{"too large", signal.Spectrum{8192.0625}, api.ErrRange},
		{"too small", signal.Spectrum{0, 0, -8192.0625}, api.ErrRange},
		{"too large and imaginary", signal.Spectrum{8192.0625i}, api.ErrRange},
		{"range before conflict", signal.Spectrum{1i, 0, 0, 9000}, api.ErrRange},
		{"value 0 not real", signal.Spectrum{1i}, api.ErrConflict},
		{"value 2 not real", signal.Spectrum{0, 0, 4 + 0.0625i}, api.ErrConflict},
		{"both not real", signal.Spectrum{1i, 0, -1i}, api.ErrConflict},
		{"both not real, alike", signal.Spectrum{1i, 0, 1i}, api.ErrConflict},
		{"other real part", signal.Spectrum{0, 1, 0, 2}, api.ErrConflict},
		{"no conjugate", signal.Spectrum{0, 1i, 0, 1i}, api.ErrConflict},
		{"only the value 1", signal.Spectrum{0, 4}, api.ErrConflict},
		{"only the value 3", signal.Spectrum{0, 0, 0, 4}, api.ErrConflict},
		{"all imaginary", signal.Spectrum{4i, 4i, 4i, 4i}, api.ErrConflict},
		{"conflict before range of the block", signal.Spectrum{8192, 8192, 8192, 8191}, api.ErrConflict},
		{"quarters of a step", signal.Spectrum{0.0625}, api.ErrRange},
		{"halves of a step", signal.Spectrum{0, 0.0625, 0, 0.0625}, api.ErrRange},
		{"block too large", signal.Spectrum{8192, 8192, 8192, 8192}, api.ErrRange},
		{"block too large by a step", signal.Spectrum{8192, 0.125, 0, 0.125}, api.ErrRange},
		{"block too small", signal.Spectrum{-8192, 0.125i, 0, -0.125i}, api.ErrRange},
	} {
		b, e := signal.Back(x.s)
		equal(t, "Back: "+x.what, e, x.e)
		equal(t, "Back: "+x.what, b, signal.Block{})
	}
}

// P1.4: a spectrum of small parts has a conflict exactly where the chapter says so.
func TestBackConflicts(t *testing.T) {
	parts := []float32{-4, 0, 4}
	for i := range 6561 {
		var v [8]float32
		for j, rest := 0, i; j < 8; j, rest = j+1, rest/3 {
			v[j] = parts[rest%3]
		}
		s := signal.Spectrum{complex(v[0], v[1]), complex(v[2], v[3]), complex(v[4], v[5]), complex(v[6], v[7])}
		wanted := api.OK
		if v[1] != 0 || v[5] != 0 || v[6] != v[2] || v[7] != -v[3] {
			wanted = api.ErrConflict
		}
		b, e := signal.Back(s)
		if e != wanted {
			t.Fatalf("Back %v: got %v, want %v", s, e, wanted)
		}
		if e != api.OK {
			continue
		}
		again, e := signal.Transform(b)
		equal(t, "Transform", e, api.OK)
		equal(t, "Transform", again, s)
	}
}

// P1.4: Energy.
func TestEnergy(t *testing.T) {
	for _, x := range []struct {
		l []float32
		n float64
	}{
		{[]float32{1, 2, 3, 4}, 30},
		{nil, 0},
		{[]float32{-0.5, minus}, 0.25},
		{[]float32{0.0625}, 0.00390625},
		{[]float32{-2048, 0.0625}, 4194304.00390625},
		{repeated(float32(2048), api.MaxLength), 17179869184},
		{append(repeated(float32(-2048), api.MaxLength-1), 0.0625), 17175674880.00390625},
	} {
		n, e := signal.Energy(x.l)
		equal(t, "Energy", e, api.OK)
		equal(t, "Energy", n, x.n)
	}
	for _, x := range []struct {
		l []float32
		e api.Errno
	}{
		{[]float32{0.01}, api.ErrRange},
		{[]float32{1, 2048.0625, nan}, api.ErrRange},
		{[]float32{1, nan, 0.01}, api.ErrForm},
		{[]float32{infinite}, api.ErrForm},
		{repeated(nan, api.MaxLength+1), api.ErrMany},
		{make([]float32, api.MaxLength+1), api.ErrMany},
		{[]float32{math.MaxFloat32}, api.ErrRange},
	} {
		n, e := signal.Energy(x.l)
		equal(t, "Energy", e, x.e)
		equal(t, "Energy", n, 0)
	}
}
