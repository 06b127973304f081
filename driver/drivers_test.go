package driver_test

import (
	"testing"

	"woofer/api"
	"woofer/driver"
	"woofer/network"
)

// P3.1: CheckDriver; drivers at their limits are among someDrivers.
func TestCheckDriver(t *testing.T) {
	for _, d := range someDrivers() {
		same(t, "CheckDriver", driver.CheckDriver(d), api.OK)
	}
	for _, d := range wrongDrivers() {
		same(t, "CheckDriver", driver.CheckDriver(d), api.ErrRange)
	}
}

// P3.1: the chapter's examples, and others.
func TestDrivers(t *testing.T) {
	coil := driver.Driver{Re: 1, Le: 2, Bl: 3, Mass: 4, Stiffness: 5, Loss: 6}
	for _, x := range []struct {
		d                                 driver.Driver
		w                                 int
		mechanics, num, excursion, output api.Gauss
	}{
		{exampleA, 2, g(0, 2), g(0, 20), g(2, 0), g(-8, 0)},
		{exampleA, 1, g(3, 1), g(18, 10), g(2, 0), g(-2, 0)},
		{exampleA, 3, g(-5, 3), g(-30, 30), g(2, 0), g(-18, 0)},
		{coil, 1, g(1, 6), g(-11, 17), g(3, 0), g(-3, 0)},
		{coil, 8, g(-251, 48), g(-1019, -3896), g(3, 0), g(-192, 0)},
		{greatest, 8, g(-1400, 800), g(-134000, -68800), g(20, 0), g(-1280, 0)},
	} {
		want(t, "Mechanics", x.mechanics)(driver.Mechanics(x.d, x.w))
		want(t, "Impedance", pair(x.num, x.mechanics))(driver.Impedance(x.d, x.w))
		want(t, "Excursion", pair(x.excursion, x.num))(driver.Excursion(x.d, x.w))
		want(t, "Output", pair(x.output, x.num))(driver.Output(x.d, x.w))
	}
}

// complexOf returns an integer as a complex number: those of these tests are below 2^53, so that nothing is rounded.
func complexOf(n int) complex128 {
	return complex(float64(n), 0)
}

func gauss(z complex128) api.Gauss {
	return g(int(real(z)), int(imag(z)))
}

// mechanicsAt is the mechanics as a polynomial of s.
func mechanicsAt(s complex128, stiffness, mass, loss int) complex128 {
	return complexOf(stiffness) + s*(complexOf(loss)+s*complexOf(mass))
}

// P3.1: all results against polynomials of s, not reduced.
func TestDriversArePolynomials(t *testing.T) {
	for _, d := range someDrivers() {
		for w := 1; w <= network.MaxW; w++ {
			s := complex(0, float64(w))
			bl := complexOf(d.Bl)
			den := mechanicsAt(s, d.Stiffness, d.Mass, d.Loss)
			num := (complexOf(d.Re)+s*complexOf(d.Le))*den + s*bl*bl
			want(t, "Mechanics", gauss(den))(driver.Mechanics(d, w))
			want(t, "Impedance", pair(gauss(num), gauss(den)))(driver.Impedance(d, w))
			want(t, "Excursion", pair(gauss(bl), gauss(num)))(driver.Excursion(d, w))
			want(t, "Output", pair(gauss(s*s*bl), gauss(num)))(driver.Output(d, w))
		}
	}
}

// P3.1: drivers and frequencies that are none.
func TestWrongDrivers(t *testing.T) {
	check := func(d driver.Driver, w int) {
		t.Helper()
		fails[api.Gauss](t, "Mechanics", api.ErrRange)(driver.Mechanics(d, w))
		fails[network.Pair](t, "Impedance", api.ErrRange)(driver.Impedance(d, w))
		fails[network.Pair](t, "Excursion", api.ErrRange)(driver.Excursion(d, w))
		fails[network.Pair](t, "Output", api.ErrRange)(driver.Output(d, w))
	}
	for _, d := range wrongDrivers() {
		check(d, 1)
		check(d, 0)
		fails[string](t, "Print", api.ErrRange)(driver.Print(d))
	}
	for _, w := range wrongFrequencies {
		check(exampleA, w)
	}
}
