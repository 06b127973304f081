package driver_test

import (
	"math"
	"math/big"
	"slices"
	"testing"

	"woofer/api"
	"woofer/driver"
)

// wrongReadings is readings with their error.
type wrongReadings struct {
	l []driver.Reading
	e api.Errno
}

// someWrongReadings returns readings with each error, and with two errors, of which the first one decides.
func someWrongReadings() []wrongReadings {
	good := driver.Reading{W: 1, Least: 0, Most: 9}
	disorder := driver.Reading{W: 1, Least: 2, Most: 1}
	list := []wrongReadings{
		{slices.Repeat([]driver.Reading{good}, 33), api.ErrMany},
		{make([]driver.Reading, 33), api.ErrMany},
		{[]driver.Reading{disorder}, api.ErrOrder},
		{[]driver.Reading{{W: 8, Least: 1000000, Most: 999999}}, api.ErrOrder},
		{[]driver.Reading{good, disorder, {W: 0}}, api.ErrOrder},
		{[]driver.Reading{good, {W: 0}, disorder}, api.ErrRange},
		{[]driver.Reading{{W: 0, Least: 2, Most: 1}}, api.ErrRange},
	}
	for _, x := range wrongFrequencies {
		list = append(list, wrongReadings{[]driver.Reading{good, {W: x, Least: 0, Most: 9}}, api.ErrRange})
	}
	for _, x := range []int{-1, 1000001, math.MinInt, math.MaxInt} {
		list = append(list, wrongReadings{[]driver.Reading{{W: 1, Least: x, Most: 1000000}}, api.ErrRange})
		list = append(list, wrongReadings{[]driver.Reading{{W: 1, Least: 0, Most: x}}, api.ErrRange})
		list = append(list, wrongReadings{[]driver.Reading{good, {W: 1, Least: x, Most: x}}, api.ErrRange})
	}
	return list
}

// P3.4: CheckReadings.
func TestCheckReadings(t *testing.T) {
	for _, l := range [][]driver.Reading{
		nil, {}, {{W: 1, Least: 0, Most: 0}}, {{W: 8, Least: 1000000, Most: 1000000}, {W: 8, Least: 0, Most: 1000000}},
		slices.Repeat([]driver.Reading{{W: 3, Least: 4, Most: 5}}, 32),
	} {
		same(t, "CheckReadings", driver.CheckReadings(l), api.OK)
	}
	for _, x := range someWrongReadings() {
		same(t, "CheckReadings", driver.CheckReadings(x.l), x.e)
	}
}

// P3.4: Explains; the squares of the driver A are 424/10 at 1, and 100 at 2.
func TestExplains(t *testing.T) {
	for _, x := range []struct {
		l  []driver.Reading
		is bool
	}{
		{nil, true},
		{[]driver.Reading{{W: 2, Least: 100, Most: 100}}, true},
		{[]driver.Reading{{W: 2, Least: 0, Most: 99}}, false},
		{[]driver.Reading{{W: 2, Least: 101, Most: 1000000}}, false},
		{[]driver.Reading{{W: 1, Least: 42, Most: 43}}, true},
		{[]driver.Reading{{W: 1, Least: 42, Most: 42}}, false},
		{[]driver.Reading{{W: 1, Least: 43, Most: 43}}, false},
		{[]driver.Reading{{W: 1, Least: 0, Most: 1000000}, {W: 2, Least: 100, Most: 100}, {W: 1, Least: 42, Most: 43}}, true},
		{[]driver.Reading{{W: 1, Least: 42, Most: 43}, {W: 2, Least: 100, Most: 100}, {W: 1, Least: 43, Most: 90}}, false},
		{[]driver.Reading{{W: 2, Least: 0, Most: 0}, {W: 2, Least: 100, Most: 100}}, false},
		{slices.Repeat([]driver.Reading{{W: 2, Least: 0, Most: 100}}, 32), true},
	} {
		want(t, "Explains", x.is)(driver.Explains(exampleA, x.l))
	}
	for _, x := range someWrongReadings() {
		fails[bool](t, "Explains", x.e)(driver.Explains(exampleA, x.l))
		fails[bool](t, "Explains", api.ErrRange)(driver.Explains(driver.Driver{}, x.l))
	}
	for _, d := range wrongDrivers() {
		fails[bool](t, "Explains", api.ErrRange)(driver.Explains(d, nil))
	}
}

// squareOf returns the squared absolute value of the impedance of a driver.
func squareOf(d driver.Driver, w int) *big.Rat {
	s := complex(0, float64(w))
	den := mechanicsAt(s, d.Stiffness, d.Mass, d.Loss)
	num := (complexOf(d.Re)+s*complexOf(d.Le))*den + s*complexOf(d.Bl*d.Bl)
	n, m := gauss(num), gauss(den)
	return rational(n.Re*n.Re+n.Im*n.Im, m.Re*m.Re+m.Im*m.Im)
}

// P3.4: Explains against rational numbers.
func TestExplainsIsRational(t *testing.T) {
	for _, d := range someDrivers() {
		for w := 1; w <= 8; w++ {
			x := squareOf(d, w)
			under := int(new(big.Int).Quo(x.Num(), x.Denom()).Int64())
			is := x.IsInt()
			want(t, "Explains", true)(driver.Explains(d, []driver.Reading{{W: w, Least: under, Most: under + 1}}))
			want(t, "Explains", is)(driver.Explains(d, []driver.Reading{{W: w, Least: 0, Most: under}}))
			want(t, "Explains", false)(driver.Explains(d, []driver.Reading{{W: w, Least: under + 1, Most: 1000000}}))
		}
	}
}

// P3.4: Sweep of the chapter's example, and of others.
func TestSweep(t *testing.T) {
	for _, x := range []struct {
		w       []int
		percent int
		l       []driver.Reading
	}{
		{[]int{2}, 10, []driver.Reading{{W: 2, Least: 90, Most: 110}}},
		{[]int{2}, 0, []driver.Reading{{W: 2, Least: 100, Most: 100}}},
		{[]int{1}, 0, []driver.Reading{{W: 1, Least: 42, Most: 43}}},
		{[]int{1}, 50, []driver.Reading{{W: 1, Least: 21, Most: 64}}},
		{[]int{1}, 25, []driver.Reading{{W: 1, Least: 31, Most: 53}}},
		{[]int{2, 1, 2}, 50, []driver.Reading{{W: 2, Least: 50, Most: 150}, {W: 1, Least: 21, Most: 64}, {W: 2, Least: 50, Most: 150}}},
		{nil, 0, nil},
		{nil, 50, nil},
		{slices.Repeat([]int{2}, 32), 1, slices.Repeat([]driver.Reading{{W: 2, Least: 99, Most: 101}}, 32)},
	} {
		want(t, "Sweep", x.l)(driver.Sweep(exampleA, x.w, x.percent))
	}
	// 50.5, less and more 1 percent: 49.995 and 51.005; 20.2 likewise: 19.998 and 20.402.
	near := driver.Driver{Re: 1, Bl: 3, Mass: 2, Stiffness: 1, Loss: 1}
	want(t, "Sweep", []driver.Reading{{W: 1, Least: 49, Most: 52}})(driver.Sweep(near, []int{1}, 1))
	near = driver.Driver{Re: 1, Bl: 2, Mass: 1, Stiffness: 3, Loss: 1}
	want(t, "Sweep", []driver.Reading{{W: 2, Least: 19, Most: 21}})(driver.Sweep(near, []int{2}, 1))
}

// P3.4: Sweep against rational numbers.
func TestSweepIsRational(t *testing.T) {
	w := []int{1, 2, 3, 4, 5, 6, 7, 8}
	for i, d := range someDrivers() {
		percent := i % 51
		l := of[[]driver.Reading](t)(driver.Sweep(d, w, percent))
		same(t, "Sweep", len(l), len(w))
		for k, r := range l {
			least := times(squareOf(d, w[k]), rational(100-percent, 100))
			most := times(squareOf(d, w[k]), rational(100+percent, 100))
			same(t, "frequency", r.W, w[k])
			same(t, "Least", rational(r.Least, 1).Cmp(least) <= 0 && rational(r.Least+1, 1).Cmp(least) > 0, true)
			same(t, "Most", rational(r.Most, 1).Cmp(most) >= 0 && rational(r.Most-1, 1).Cmp(most) < 0, true)
		}
		same(t, "CheckReadings", driver.CheckReadings(l), api.OK)
	}
}

// P3.4: the errors of Sweep, from left to right.
func TestSweepErrors(t *testing.T) {
	list := func(d driver.Driver, w []int, percent int, e api.Errno) {
		t.Helper()
		fails[[]driver.Reading](t, "Sweep", e)(driver.Sweep(d, w, percent))
	}
	for _, d := range wrongDrivers() {
		list(d, []int{1}, 1, api.ErrRange)
		list(d, make([]int, 33), 1, api.ErrRange)
	}
	list(exampleA, slices.Repeat([]int{1}, 33), 1, api.ErrMany)
	list(exampleA, make([]int, 33), -1, api.ErrMany)
	for _, w := range wrongFrequencies {
		list(exampleA, []int{1, 8, w, 2}, 1, api.ErrRange)
	}
	for _, percent := range []int{-1, 51, math.MinInt, math.MaxInt} {
		list(exampleA, []int{1}, percent, api.ErrRange)
		list(exampleA, nil, percent, api.ErrRange)
	}
}
