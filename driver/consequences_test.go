package driver_test

import (
	"fmt"
	"math"
	"math/big"
	"slices"
	"testing"

	"woofer/api"
	"woofer/driver"
	"woofer/network"
)

// isAtLeast reports whether the real part of a quotient is at least an integer.
func isAtLeast(p network.Pair, n int) bool {
	product := func(a, b int) *big.Int { return new(big.Int).Mul(big.NewInt(int64(a)), big.NewInt(int64(b))) }
	sum := func(a, b *big.Int) *big.Int { return new(big.Int).Add(a, b) }
	part := sum(product(p.Num.Re, p.Den.Re), product(p.Num.Im, p.Den.Im))
	square := sum(product(p.Den.Re, p.Den.Re), product(p.Den.Im, p.Den.Im))
	return part.Cmp(square.Mul(square, big.NewInt(int64(n)))) >= 0
}

// P3.6: the real part of an impedance is at least the resistance, also in a box.
func TestImpedanceIsAtLeastResistance(t *testing.T) {
	for _, d := range someDrivers() {
		for w := 1; w <= network.MaxW; w++ {
			z := of[network.Pair](t)(driver.Impedance(d, w))
			same(t, "Impedance", isAtLeast(z, d.Re), true)
		}
		for _, b := range someBoxes() {
			z := of[network.Pair](t)(driver.Boxed(d, b, d.Bl%8+1))
			same(t, "Boxed", isAtLeast(z, d.Re), true)
		}
	}
}

// P3.6: at the resonance the mechanics is i w Loss.
func TestMechanicsAtResonance(t *testing.T) {
	for _, d := range someDrivers() {
		for w := 1; w <= network.MaxW; w++ {
			d.Stiffness = w * w * d.Mass
			if d.Stiffness > driver.MaxStiffness {
				continue
			}
			want(t, "Resonance", ratio(w*w, 1))(driver.Resonance(d))
			want(t, "Mechanics", g(0, w*d.Loss))(driver.Mechanics(d, w))
		}
	}
}

// P3.6: a closed box is a stiffer driver.
func TestClosedIsStiffer(t *testing.T) {
	checked := 0
	for i, d := range someDrivers() {
		for _, air := range []int{1, 5, 100, 4999, 5000 - d.Stiffness} {
			if air < 1 || air+d.Stiffness > driver.MaxStiffness {
				continue
			}
			b, w := driver.Box{Air: air}, (i+air)%8+1
			stiffer := of[driver.Driver](t)(driver.Closed(d, air))
			want(t, "Boxed", of[network.Pair](t)(driver.Impedance(stiffer, w)))(driver.Boxed(d, b, w))
			want(t, "Radiated", of[network.Pair](t)(driver.Output(stiffer, w)))(driver.Radiated(d, b, w))
			excursion := of[network.Pair](t)(driver.Excursion(stiffer, w))
			want(t, "Moved", [2]network.Pair{excursion, pair(g(0, 0), g(1, 0))})(driver.Moved(d, b, w))
			checked++
		}
	}
	same(t, "closed boxes", checked > 500, true)
}

// P3.6: what a driver radiates from a ported box is the difference of both movements.
func TestRadiatedIsDifference(t *testing.T) {
	for _, d := range someDrivers() {
		for i, b := range someBoxes() {
			if b.Mass == 0 {
				continue
			}
			w := i%8 + 1
			moved := of[[2]network.Pair](t)(driver.Moved(d, b, w))
			difference := g(moved[0].Num.Re-moved[1].Num.Re, moved[0].Num.Im-moved[1].Num.Im)
			same(t, "denominators", moved[0].Den, moved[1].Den)
			want(t, "Radiated", pair(g(-w*w*difference.Re, -w*w*difference.Im), moved[0].Den))(driver.Radiated(d, b, w))
		}
	}
}

// P3.6: the weighed driver is the one that was weighed.
func TestWeighedIsDriver(t *testing.T) {
	checked := 0
	for _, d := range someDrivers() {
		for _, added := range []int{1, 7, 50, 99} {
			heavier := d
			heavier.Mass += added
			if heavier.Mass > driver.MaxMass {
				continue
			}
			free, loaded := of[api.Ratio](t)(driver.Resonance(d)), of[api.Ratio](t)(driver.Resonance(heavier))
			mass, stiffness, e := driver.Weighed(free, loaded, added)
			same(t, "Weighed", []any{mass, stiffness, e}, []any{ratio(d.Mass, 1), ratio(d.Stiffness, 1), api.OK})
			checked++
		}
	}
	same(t, "weighed drivers", checked > 300, true)
}

// P3.6: the reciprocal of the total quality is the sum of those of both others.
func TestTotalQuality(t *testing.T) {
	for _, d := range someDrivers() {
		q := of[[3]api.Ratio](t)(driver.Quality(d))
		a, b, c := rational(q[0].Den, q[0].Num), rational(q[1].Den, q[1].Num), rational(q[2].Den, q[2].Num)
		// The squares of the reciprocals: c is a + b and twice the root of a b.
		rest := new(big.Rat).Sub(c, new(big.Rat).Add(a, b))
		same(t, "sign", rest.Sign(), 1)
		same(t, "square", times(rest, rest), times(rational(4, 1), a, b))
	}
}

// P3.6, P4: a region holds each driver of its class that made the readings.
func TestRegionHoldsDriver(t *testing.T) {
	for c := range someClasses(t) {
		for i, d := range membersOf(c) {
			l := of[[]driver.Reading](t)(driver.Sweep(d, []int{1, 2, 8, i%8 + 1}, i%51))
			want(t, "Explains", true)(driver.Explains(d, l))
			region := of[[]driver.Driver](t)(driver.Region(c, l))
			same(t, "Region", slices.Contains(region, d), true)
		}
	}
}

// P3.6: no driver explains a conflict, but one explains it without any one of its readings.
func TestConflictIsLeast(t *testing.T) {
	checked := 0
	for c, l := range someClasses(t) {
		indices, e := driver.Conflict(c, l)
		if e != api.OK {
			continue
		}
		conflict := chosen(l, indices)
		want(t, "Region of a conflict", []driver.Driver(nil))(driver.Region(c, conflict))
		for i := range conflict {
			rest := slices.Delete(slices.Clone(conflict), i, i+1)
			region := of[[]driver.Driver](t)(driver.Region(c, rest))
			same(t, "Region without a reading", len(region) > 0, true)
		}
		checked++
	}
	same(t, "conflicts", checked > 30, true)
}

// P3.6: a driver is parsed as it was printed.
func TestDriversComeBack(t *testing.T) {
	for _, d := range someDrivers() {
		want(t, "Parse", d)(driver.Parse(of[string](t)(driver.Print(d))))
	}
}

// P3.4, the rule Memory: arguments are not modified, and results share no memory with them or with each other.
func TestMemory(t *testing.T) {
	readings := []driver.Reading{{W: 2, Least: 0, Most: 1000000}, {W: 2, Least: 90, Most: 110}, {W: 2, Least: 0, Most: 50}}
	frequencies, lines := []int{3, 1, 2}, curve()
	before := fmt.Sprint(readings, frequencies, lines)
	region := of[[]driver.Driver](t)(driver.Region(twoMasses(), readings[:2]))
	conflict := of[[]int](t)(driver.Conflict(twoMasses(), readings))
	sweep := of[[]driver.Reading](t)(driver.Sweep(exampleA, frequencies, 10))
	driver.Explains(exampleA, readings)
	driver.Linear(lines, 50, 200)
	same(t, "arguments", fmt.Sprint(readings, frequencies, lines), before)
	wanted := fmt.Sprint(region, conflict, sweep)
	again := [3]any{of[[]driver.Driver](t)(driver.Region(twoMasses(), readings[:2])), of[[]int](t)(driver.Conflict(twoMasses(), readings)), of[[]driver.Reading](t)(driver.Sweep(exampleA, frequencies, 10))}
	region[0], conflict[0], sweep[0] = driver.Driver{}, 9, driver.Reading{}
	same(t, "arguments behind a change of results", fmt.Sprint(readings, frequencies, lines), before)
	same(t, "results behind it", fmt.Sprint(again[0], again[1], again[2]), wanted)
}

// P1: no function panics, whatever its arguments are.
func TestNothingPanics(t *testing.T) {
	numbers := []int{math.MinInt, math.MinInt32, -1, 0, 1, 2, 9, 100, 5001, math.MaxInt32, math.MaxInt}
	for _, a := range numbers {
		for _, b := range numbers {
			d, box := driver.Driver{Re: a, Le: b, Bl: a, Mass: b, Stiffness: a, Loss: b}, driver.Box{Air: b, Mass: a, Stiffness: b, Loss: a}
			for _, x := range []driver.Driver{d, exampleA} {
				for _, y := range []driver.Box{box, exampleB, {Air: 1}} {
					driver.Boxed(x, y, a)
					driver.Radiated(x, y, b)
					driver.Moved(x, y, 1)
				}
				l := []driver.Reading{{W: a, Least: b, Most: a}, {W: 1, Least: a, Most: b}}
				for _, c := range []driver.Class{{First: x, Mass: a, Stiffness: b, Loss: a}, only(x)} {
					driver.CheckClass(c)
					driver.Region(c, l)
					driver.Conflict(c, l)
					driver.Region(c, nil)
					driver.Conflict(c, nil)
				}
				driver.Impedance(x, a)
				driver.Closed(x, b)
				driver.Quality(x)
				driver.Explains(x, l)
				driver.Sweep(x, numbers, b)
				driver.Sweep(x, []int{1}, b)
				driver.Print(x)
			}
			driver.Tuning(box)
			driver.Weighed(ratio(a, b), ratio(b, a), a)
			driver.Linear(driver.Curve{Force: numbers, Stiffness: []int{a, b}}, a, b)
			driver.Linear(driver.Curve{Force: numbers, Stiffness: numbers}, a, b)
			driver.Linear(driver.Curve{Stiffness: numbers}, a, b)
			driver.Linear(curve(), a, b)
		}
	}
	driver.Parse("driver \xff \x00")
}
