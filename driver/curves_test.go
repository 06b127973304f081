package driver_test

import (
	"math"
	"slices"
	"testing"

	"woofer/api"
	"woofer/driver"
)

// curve is the curve of the chapter's example.
func curve() driver.Curve {
	return driver.Curve{Force: []int{60, 90, 100, 95, 70}, Stiffness: []int{30, 12, 10, 11, 25}}
}

// flat returns a curve that is linear everywhere.
func flat(n int) driver.Curve {
	return driver.Curve{Force: slices.Repeat([]int{7}, n), Stiffness: slices.Repeat([]int{9}, n)}
}

// wrongCurve is a curve with its error.
type wrongCurve struct {
	c driver.Curve
	e api.Errno
}

// wrongCurves returns curves with each error, and with two errors, of which the first one decides.
func wrongCurves() []wrongCurve {
	var list []wrongCurve
	for _, n := range []int{0, 1, 2, 4, 6, 32, 34, 35} {
		list = append(list, wrongCurve{flat(n), api.ErrShape})
	}
	for _, n := range []int{0, 3, 4, 6, 7} {
		list = append(list, wrongCurve{driver.Curve{Force: curve().Force, Stiffness: flat(n).Stiffness}, api.ErrShape})
		list = append(list, wrongCurve{driver.Curve{Force: flat(n).Force, Stiffness: curve().Stiffness}, api.ErrShape})
	}
	for _, x := range []int{0, -1, 1000000000, math.MinInt, math.MaxInt} {
		for i := range 5 {
			c, d := curve(), curve()
			c.Force[i] = x
			d.Stiffness[i] = x
			list = append(list, wrongCurve{c, api.ErrRange}, wrongCurve{d, api.ErrRange})
		}
		list = append(list, wrongCurve{driver.Curve{Force: slices.Repeat([]int{x}, 4), Stiffness: slices.Repeat([]int{x}, 4)}, api.ErrShape})
	}
	return list
}

// P3.5: CheckCurve.
func TestCheckCurve(t *testing.T) {
	same(t, "CheckCurve", driver.CheckCurve(curve()), api.OK)
	for n := 3; n <= 33; n += 2 {
		same(t, "CheckCurve", driver.CheckCurve(flat(n)), api.OK)
	}
	for _, x := range []int{1, 999999999} {
		l := []int{x, x, x}
		same(t, "CheckCurve at a limit", driver.CheckCurve(driver.Curve{Force: l, Stiffness: l}), api.OK)
	}
	for _, x := range wrongCurves() {
		same(t, "CheckCurve", driver.CheckCurve(x.c), x.e)
	}
}

// P3.5: Linear of the chapter's examples, and at the limits between two displacements.
func TestLinear(t *testing.T) {
	dips := driver.Curve{Force: []int{9, 9, 8, 9, 9, 9, 9}, Stiffness: []int{5, 5, 5, 5, 5, 5, 5}}
	right := driver.Curve{Force: []int{100, 100, 100, 100, 50}, Stiffness: []int{10, 10, 10, 10, 10}}
	stiffLeft := driver.Curve{Force: []int{9, 9, 9, 9, 9}, Stiffness: []int{10, 11, 10, 10, 10}}
	rising := driver.Curve{Force: []int{9, 8, 1, 8, 9}, Stiffness: []int{1, 2, 999999999, 2, 1}}
	const most = 999999999
	large := driver.Curve{Force: []int{most - 1, most, most}, Stiffness: []int{most, most, most}}
	larger := driver.Curve{Force: []int{most, most, most}, Stiffness: []int{most, 99999999, most}}
	for _, x := range []struct {
		c                driver.Curve
		force, stiffness int
		linear           int
	}{
		{curve(), 82, 150, 1}, {curve(), 92, 150, 0}, {curve(), 90, 120, 1}, {curve(), 91, 120, 0}, {curve(), 90, 119, 0}, {curve(), 60, 300, 2},
		{curve(), 61, 300, 1}, {curve(), 60, 299, 1}, {curve(), 1, 1000, 2}, {curve(), 100, 100, 0}, {curve(), 1, 100, 0},
		{flat(3), 100, 100, 1}, {flat(33), 100, 100, 16}, {flat(33), 1, 1000, 16},
		{dips, 100, 100, 0}, {dips, 88, 100, 3}, {dips, 89, 100, 0}, {right, 51, 100, 1}, {right, 50, 100, 2},
		{stiffLeft, 100, 109, 0}, {stiffLeft, 100, 110, 2}, {rising, 100, 100, 2},
		{large, 100, 100, 0}, {large, 99, 100, 1}, {larger, 100, 1000, 0}, {larger, 100, 100, 0},
	} {
		want(t, "Linear", x.linear)(driver.Linear(x.c, x.force, x.stiffness))
	}
}

// P3.5: a place behind one that is not linear does not count.
func TestLinearStops(t *testing.T) {
	for n := 3; n <= 33; n += 2 {
		for at := range n {
			c := flat(n)
			c.Force[at] = 3
			d := flat(n)
			d.Stiffness[at] = 20
			if at == n/2 {
				continue
			}
			linear := max(at-n/2, n/2-at) - 1
			want(t, "Linear", linear)(driver.Linear(c, 50, 200))
			want(t, "Linear", linear)(driver.Linear(d, 50, 200))
			want(t, "Linear", n/2)(driver.Linear(c, 42, 200))
			want(t, "Linear", n/2)(driver.Linear(d, 50, 223))
		}
	}
}

// P3.5: arguments that are none, from left to right.
func TestLinearErrors(t *testing.T) {
	for _, x := range wrongCurves() {
		fails[int](t, "Linear", x.e)(driver.Linear(x.c, 50, 200))
		fails[int](t, "Linear", x.e)(driver.Linear(x.c, 0, 0))
	}
	for _, x := range []int{0, -1, 101, math.MinInt, math.MaxInt} {
		fails[int](t, "Linear", api.ErrRange)(driver.Linear(curve(), x, 200))
	}
	for _, x := range []int{99, 0, -1, 1001, math.MinInt, math.MaxInt} {
		fails[int](t, "Linear", api.ErrRange)(driver.Linear(curve(), 50, x))
	}
}
