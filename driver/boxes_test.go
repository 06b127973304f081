package driver_test

import (
	"math"
	"testing"

	"woofer/api"
	"woofer/driver"
	"woofer/network"
)

// P3.2: CheckBox.
func TestCheckBox(t *testing.T) {
	for _, b := range someBoxes() {
		same(t, "CheckBox", driver.CheckBox(b), api.OK)
	}
	for _, x := range wrongBoxes() {
		same(t, "CheckBox", driver.CheckBox(x.b), x.e)
	}
}

// P3.2: the chapter's examples.
func TestBoxes(t *testing.T) {
	num := g(-4, 40)
	want(t, "Boxed", pair(num, g(0, 6)))(driver.Boxed(exampleA, exampleB, 1))
	want(t, "Radiated", pair(g(2, -2), num))(driver.Radiated(exampleA, exampleB, 1))
	want(t, "Moved", [2]network.Pair{pair(g(2, 2), num), pair(g(4, 0), num)})(driver.Moved(exampleA, exampleB, 1))
	closed := driver.Box{Air: 5}
	num = g(0, 30)
	want(t, "Boxed, closed", pair(num, g(0, 3)))(driver.Boxed(exampleA, closed, 3))
	want(t, "Radiated, closed", pair(g(-18, 0), num))(driver.Radiated(exampleA, closed, 3))
	want(t, "Moved, closed", [2]network.Pair{pair(g(2, 0), num), pair(g(0, 0), g(1, 0))})(driver.Moved(exampleA, closed, 3))
}

// P3.2: a stiffness in a closed box beyond that of a driver.
func TestStiffBox(t *testing.T) {
	d, b := greatest, driver.Box{Air: 5000}
	den := g(3600, 800) // 10000 - 64 times 100
	num := g(116000, 331200)
	want(t, "Boxed", pair(num, den))(driver.Boxed(d, b, 8))
	want(t, "Radiated", pair(g(-1280, 0), num))(driver.Radiated(d, b, 8))
	want(t, "Moved", [2]network.Pair{pair(g(20, 0), num), pair(g(0, 0), g(1, 0))})(driver.Moved(d, b, 8))
}

// P3.2: all results against polynomials of s, not reduced.
func TestBoxesArePolynomials(t *testing.T) {
	for _, d := range someDrivers() {
		for _, b := range someBoxes() {
			if b.Mass == 0 {
				continue // these are stiffer drivers: see TestClosedIsStiffer
			}
			for _, w := range []int{1, 2, 5, 8} {
				s := complex(0, float64(w))
				bl, air := complexOf(d.Bl), complexOf(b.Air)
				p := mechanicsAt(s, b.Stiffness, b.Mass, b.Loss)
				q := air + p
				den := mechanicsAt(s, d.Stiffness, d.Mass, d.Loss)*q + air*p
				num := (complexOf(d.Re)+s*complexOf(d.Le))*den + s*bl*bl*q
				want(t, "Boxed", pair(gauss(num), gauss(den)))(driver.Boxed(d, b, w))
				want(t, "Radiated", pair(gauss(s*s*bl*p), gauss(num)))(driver.Radiated(d, b, w))
				want(t, "Moved", [2]network.Pair{pair(gauss(bl*q), gauss(num)), pair(gauss(bl*air), gauss(num))})(driver.Moved(d, b, w))
			}
		}
	}
}

// failsBoxed requires an error of the functions of a driver in a box.
func failsBoxed(t *testing.T, d driver.Driver, b driver.Box, w int, e api.Errno) {
	t.Helper()
	fails[network.Pair](t, "Boxed", e)(driver.Boxed(d, b, w))
	fails[network.Pair](t, "Radiated", e)(driver.Radiated(d, b, w))
	fails[[2]network.Pair](t, "Moved", e)(driver.Moved(d, b, w))
}

// P3.2: arguments that are none, from left to right.
func TestWrongBoxes(t *testing.T) {
	shapeless := driver.Box{Air: 2, Loss: 1}
	for _, d := range wrongDrivers() {
		failsBoxed(t, d, exampleB, 1, api.ErrRange)
		failsBoxed(t, d, shapeless, 1, api.ErrRange)
		fails[driver.Driver](t, "Closed", api.ErrRange)(driver.Closed(d, 0))
		fails[driver.Driver](t, "Closed", api.ErrRange)(driver.Closed(d, 1))
	}
	for _, x := range wrongBoxes() {
		failsBoxed(t, exampleA, x.b, 1, x.e)
		failsBoxed(t, exampleA, x.b, 0, x.e)
		fails[api.Ratio](t, "Tuning", x.e)(driver.Tuning(x.b))
	}
	for _, w := range wrongFrequencies {
		failsBoxed(t, exampleA, exampleB, w, api.ErrRange)
		failsBoxed(t, exampleA, driver.Box{Air: 1}, w, api.ErrRange)
		failsBoxed(t, exampleA, shapeless, w, api.ErrShape)
	}
}

// P3.2: Closed.
func TestClosed(t *testing.T) {
	stiff := func(n int) driver.Driver {
		d := exampleA
		d.Stiffness = n
		return d
	}
	want(t, "Closed", stiff(9))(driver.Closed(exampleA, 5))
	want(t, "Closed by nothing", exampleA)(driver.Closed(exampleA, 0))
	want(t, "Closed up to the limit", stiff(5000))(driver.Closed(exampleA, 4996))
	want(t, "Closed up to the limit", stiff(5000))(driver.Closed(stiff(1), 4999))
	want(t, "Closed by nothing at the limit", stiff(5000))(driver.Closed(stiff(5000), 0))
	for _, n := range []int{4997, 5000, 5001, -1, math.MinInt, math.MaxInt} {
		fails[driver.Driver](t, "Closed", api.ErrRange)(driver.Closed(exampleA, n))
	}
	fails[driver.Driver](t, "Closed beyond the limit", api.ErrRange)(driver.Closed(stiff(5000), 1))
}

// P3.2: Tuning.
func TestTuning(t *testing.T) {
	want(t, "Tuning", ratio(2, 1))(driver.Tuning(exampleB))
	want(t, "Tuning of a passive radiator", ratio(73, 4))(driver.Tuning(driver.Box{Air: 9, Mass: 4, Stiffness: 64, Loss: 2}))
	want(t, "Tuning in lowest terms", ratio(3, 4))(driver.Tuning(driver.Box{Air: 60, Mass: 100, Stiffness: 15, Loss: 100}))
	want(t, "Tuning of the greatest", ratio(10000, 1))(driver.Tuning(driver.Box{Air: 5000, Mass: 1, Stiffness: 5000, Loss: 1}))
	for _, n := range []int{1, 5000} {
		fails[api.Ratio](t, "Tuning without a port", api.ErrNone)(driver.Tuning(driver.Box{Air: n}))
	}
}
