package signal_test

import (
	"math"
	"testing"

	"woofer/api"
	"woofer/signal"
)

// P1.2: Cut.
func TestCut(t *testing.T) {
	for _, x := range []struct {
		from, to int
		out      []float32
	}{{1, 3, []float32{-0.5, 2}}, {0, 3, []float32{1, -0.5, 2}}, {0, 1, []float32{1}}, {0, 0, nil}, {2, 2, nil}, {3, 3, nil}} {
		r, e := signal.Cut(hum(), x.from, x.to)
		equal(t, "Cut", e, api.OK)
		equalRecord(t, "Cut", r, record(x.out...))
	}
	for _, x := range [][2]int{{-1, 2}, {2, 1}, {0, 4}, {4, 4}, {-1, -1}, {3, 2}, {math.MinInt, 0}, {0, math.MaxInt}, {math.MaxInt, math.MinInt}} {
		r, e := signal.Cut(hum(), x[0], x[1])
		nothing(t, "Cut", r, e, api.ErrSpan)
	}
	for _, x := range wrongRecords() {
		r, e := signal.Cut(x.r, -1, 0)
		nothing(t, "Cut: "+x.what, r, e, x.e)
	}
}

// P1.2: Append.
func TestAppend(t *testing.T) {
	r, e := signal.Append(hum(), record(4))
	equal(t, "Append", e, api.OK)
	equalRecord(t, "Append", r, record(1, -0.5, 2, 4))
	r, e = signal.Append(record(), hum())
	equal(t, "Append to nothing", e, api.OK)
	equalRecord(t, "Append to nothing", r, hum())
	long := record(repeated(float32(3), api.MaxLength-3)...)
	r, e = signal.Append(hum(), long)
	equal(t, "Append up to the limit", e, api.OK)
	equalRecord(t, "Append up to the limit", r, record(append([]float32{1, -0.5, 2}, long.Samples...)...))

	long.Samples = append(long.Samples, 0)
	otherName := signal.Record{Name: "hun", Rate: 48, Samples: long.Samples}
	otherRate := signal.Record{Name: "hum", Rate: 49}
	for _, x := range []struct {
		what string
		b    signal.Record
		e    api.Errno
	}{{"another name", otherName, api.ErrConflict}, {"another rate", otherRate, api.ErrConflict}, {"too many", long, api.ErrMany}} {
		r, e := signal.Append(hum(), x.b)
		nothing(t, "Append: "+x.what, r, e, x.e)
	}
	testPairsOfWrong(t, "Append", signal.Append)
}

// testPairsOfWrong tests that the first of two records with an error decides, before the errors of both together.
func testPairsOfWrong(t *testing.T, what string, f func(a, b signal.Record) (signal.Record, api.Errno)) {
	t.Helper()
	other := signal.Record{Name: "b", Rate: 7}
	for _, x := range wrongRecords() {
		r, e := f(x.r, other)
		nothing(t, what+": first: "+x.what, r, e, x.e)
		r, e = f(other, x.r)
		nothing(t, what+": second: "+x.what, r, e, x.e)
		for _, y := range wrongRecords() {
			r, e = f(x.r, y.r)
			nothing(t, what+": "+x.what+" and "+y.what, r, e, x.e)
		}
	}
}

// P1.2: Mix.
func TestMix(t *testing.T) {
	r, e := signal.Mix(hum(), hum())
	equal(t, "Mix with itself", e, api.OK)
	equalRecord(t, "Mix with itself", r, record(2, -1, 4))
	b := signal.Record{Name: "b", Rate: 48, Samples: []float32{1, 1, 1}}
	r, e = signal.Mix(hum(), b)
	equal(t, "Mix", e, api.OK)
	equalRecord(t, "Mix", r, record(2, 0.5, 3))
	r, e = signal.Mix(record(2047.9375, -2047, 2048), record(0.0625, -1, -2048))
	equal(t, "Mix up to the limits", e, api.OK)
	equalRecord(t, "Mix up to the limits", r, record(2048, -2048, 0))
	r, e = signal.Mix(record(), record())
	equal(t, "Mix of nothing", e, api.OK)
	equalRecord(t, "Mix of nothing", r, record())

	for _, x := range []struct {
		what string
		b    signal.Record
		e    api.Errno
	}{
		{"another rate", signal.Record{Name: "hum", Rate: 47, Samples: []float32{2048}}, api.ErrConflict},
		{"shorter", record(2048), api.ErrShape},
		{"longer", record(2048, 0, 0, 0), api.ErrShape},
		{"too large", record(2047.0625, 0, 0), api.ErrRange},
		{"last too small", record(0, 0, 2046.0625), api.ErrRange},
		{"second too small", record(0, -2047.5625, 0), api.ErrRange},
	} {
		r, e := signal.Mix(hum(), x.b)
		nothing(t, "Mix: "+x.what, r, e, x.e)
	}
	testPairsOfWrong(t, "Mix", signal.Mix)
}

// P1.2: Scale.
func TestScale(t *testing.T) {
	for _, x := range []struct {
		in    []float32
		shift int
		out   []float32
	}{
		{[]float32{1, -0.5, 2}, 1, []float32{2, -1, 4}},
		{[]float32{1, -0.5, 2}, 0, []float32{1, -0.5, 2}},
		{[]float32{1, -0.5, 2}, -3, []float32{0.125, -0.0625, 0.25}},
		{[]float32{1, -0.5, 2}, 8, []float32{256, -128, 512}},
		{[]float32{16, -2048, 0}, -8, []float32{0.0625, -8, 0}},
		{[]float32{8, -8, 0.0625}, 8, []float32{2048, -2048, 16}},
		{nil, 8, nil},
	} {
		r, e := signal.Scale(record(x.in...), x.shift)
		equal(t, "Scale", e, api.OK)
		equalRecord(t, "Scale", r, record(x.out...))
	}
	for _, x := range []struct {
		r     signal.Record
		shift int
	}{
		{hum(), -4}, {hum(), 9}, {hum(), -9}, {hum(), math.MaxInt}, {hum(), math.MinInt}, {record(), 9}, {record(), -9},
		{record(8.0625), 8}, {record(0, -8.0625), 8}, {record(16, 8), -8}, {record(16, 16.0625), -8}, {record(1024.0625), 1}, {record(0.0625), -1},
	} {
		r, e := signal.Scale(x.r, x.shift)
		nothing(t, "Scale", r, e, api.ErrRange)
	}
	for _, x := range wrongRecords() {
		r, e := signal.Scale(x.r, 9)
		nothing(t, "Scale: "+x.what, r, e, x.e)
	}
}

// P1.2: Delay.
func TestDelay(t *testing.T) {
	r, e := signal.Delay(hum(), 2)
	equal(t, "Delay", e, api.OK)
	equalRecord(t, "Delay", r, record(0, 0, 1, -0.5, 2))
	r, e = signal.Delay(hum(), 0)
	equal(t, "Delay by 0", e, api.OK)
	equalRecord(t, "Delay by 0", r, hum())
	r, e = signal.Delay(hum(), 4093)
	equal(t, "Delay up to the limit", e, api.OK)
	equalRecord(t, "Delay up to the limit", r, record(append(make([]float32, 4093), 1, -0.5, 2)...))
	r, e = signal.Delay(record(), api.MaxLength)
	equal(t, "Delay of nothing", e, api.OK)
	equalRecord(t, "Delay of nothing", r, record(make([]float32, api.MaxLength)...))

	for _, x := range []struct {
		n int
		e api.Errno
	}{{-1, api.ErrRange}, {math.MinInt, api.ErrRange}, {4094, api.ErrMany}, {4096, api.ErrMany}, {4097, api.ErrRange}, {math.MaxInt, api.ErrRange}} {
		r, e := signal.Delay(hum(), x.n)
		nothing(t, "Delay", r, e, x.e)
	}
	for _, x := range wrongRecords() {
		r, e := signal.Delay(x.r, -1)
		nothing(t, "Delay: "+x.what, r, e, x.e)
	}
}

// P1.2, the rule Memory: results share no memory with arguments, which are not modified.
func TestRecordsShareNothing(t *testing.T) {
	operations := map[string]func(r signal.Record) (signal.Record, api.Errno){
		"Cut":         func(r signal.Record) (signal.Record, api.Errno) { return signal.Cut(r, 0, 3) },
		"Append":      func(r signal.Record) (signal.Record, api.Errno) { return signal.Append(r, r) },
		"Append none": func(r signal.Record) (signal.Record, api.Errno) { return signal.Append(r, record()) },
		"Append to":   func(r signal.Record) (signal.Record, api.Errno) { return signal.Append(record(), r) },
		"Mix":         func(r signal.Record) (signal.Record, api.Errno) { return signal.Mix(r, r) },
		"Scale":       func(r signal.Record) (signal.Record, api.Errno) { return signal.Scale(r, 1) },
		"Scale by 0":  func(r signal.Record) (signal.Record, api.Errno) { return signal.Scale(r, 0) },
		"Delay":       func(r signal.Record) (signal.Record, api.Errno) { return signal.Delay(r, 1) },
		"Delay by 0":  func(r signal.Record) (signal.Record, api.Errno) { return signal.Delay(r, 0) },
	}
	for what, f := range operations {
		backing := []float32{1, -0.5, 2, 7, 7, 7}
		r := record(backing[:3]...)
		out, e := f(r)
		equal(t, what, e, api.OK)
		equalList(t, what+": argument", backing, []float32{1, -0.5, 2, 7, 7, 7})
		whole := out.Samples[:cap(out.Samples)]
		for i := range whole {
			whole[i] = 9
		}
		equalList(t, what+": argument behind", backing, []float32{1, -0.5, 2, 7, 7, 7})
	}
}
