package driver_test

import (
	"math"
	"math/big"
	"testing"

	"woofer/api"
	"woofer/driver"
)

// P3.3: Resonance and Quality of the chapter's example, and of others.
func TestFigures(t *testing.T) {
	for _, x := range []struct {
		d         driver.Driver
		resonance api.Ratio
		qualities [3]api.Ratio
	}{
		{exampleA, ratio(4, 1), [3]api.Ratio{ratio(4, 1), ratio(9, 1), ratio(36, 25)}},
		{driver.Driver{Re: 1, Le: 2, Bl: 3, Mass: 4, Stiffness: 6, Loss: 5}, ratio(3, 2), [3]api.Ratio{ratio(24, 25), ratio(8, 27), ratio(6, 49)}},
		{greatest, ratio(50, 1), [3]api.Ratio{ratio(50, 1), ratio(15625, 2), ratio(31250, 729)}},
		{driver.Driver{Re: 50, Bl: 1, Mass: 100, Stiffness: 5000, Loss: 1}, ratio(50, 1), [3]api.Ratio{ratio(500000, 1), ratio(1250000000, 1), ratio(1250000000, 51*51)}},
		{driver.Driver{Re: 1, Bl: 20, Mass: 1, Stiffness: 1, Loss: 100}, ratio(1, 1), [3]api.Ratio{ratio(1, 10000), ratio(1, 160000), ratio(1, 250000)}},
	} {
		want(t, "Resonance", x.resonance)(driver.Resonance(x.d))
		want(t, "Quality", x.qualities)(driver.Quality(x.d))
	}
	for _, d := range wrongDrivers() {
		fails[api.Ratio](t, "Resonance", api.ErrRange)(driver.Resonance(d))
		fails[[3]api.Ratio](t, "Quality", api.ErrRange)(driver.Quality(d))
	}
}

// rational returns the rational number num / den.
func rational(num, den int) *big.Rat {
	return big.NewRat(int64(num), int64(den))
}

// lowest returns a rational number as a ratio.
func lowest(x *big.Rat) api.Ratio {
	return ratio(int(x.Num().Int64()), int(x.Denom().Int64()))
}

// times returns the product of rational numbers.
func times(l ...*big.Rat) *big.Rat {
	product := rational(1, 1)
	for _, x := range l {
		product.Mul(product, x)
	}
	return product
}

// P3.3: Resonance and Quality against rational numbers, in lowest terms.
func TestFiguresAreRational(t *testing.T) {
	for _, d := range someDrivers() {
		want(t, "Resonance", lowest(rational(d.Stiffness, d.Mass)))(driver.Resonance(d))
		product := rational(d.Stiffness*d.Mass, 1)
		mechanical := rational(1, d.Loss)
		electrical := rational(d.Re, d.Bl*d.Bl)
		total := rational(d.Re, d.Loss*d.Re+d.Bl*d.Bl)
		want(t, "Quality", [3]api.Ratio{
			lowest(times(product, mechanical, mechanical)),
			lowest(times(product, electrical, electrical)),
			lowest(times(product, total, total)),
		})(driver.Quality(d))
	}
}

// P3.3: Weighed of the chapter's example, and of others.
func TestWeighed(t *testing.T) {
	for _, x := range []struct {
		free, loaded    api.Ratio
		added           int
		mass, stiffness api.Ratio
	}{
		{ratio(4, 1), ratio(1, 1), 3, ratio(1, 1), ratio(4, 1)},
		{ratio(3, 2), ratio(2, 3), 5, ratio(4, 1), ratio(6, 1)},
		{ratio(1, 1), ratio(1, 2), 1, ratio(1, 1), ratio(1, 1)},
		{ratio(2, 1), ratio(1, 2), 1, ratio(1, 3), ratio(2, 3)},
		{ratio(10000, 1), ratio(1, 10000), 1, ratio(1, 99999999), ratio(10000, 99999999)},
		{ratio(10000, 9999), ratio(9999, 10000), 100, ratio(100*9999*9999, 10000*10000-9999*9999), ratio(100*9999*10000, 10000*10000-9999*9999)},
		{ratio(10000, 1), ratio(9999, 1), 100, ratio(999900, 1), ratio(9999000000, 1)},
	} {
		mass, stiffness, e := driver.Weighed(x.free, x.loaded, x.added)
		same(t, "Weighed", []any{mass, stiffness, e}, []any{x.mass, x.stiffness, api.OK})
	}
}

// P3.3: the errors of Weighed, and their order.
func TestWeighedErrors(t *testing.T) {
	high, low := ratio(4, 1), ratio(1, 1)
	check := func(free, loaded api.Ratio, added int, e api.Errno) {
		t.Helper()
		mass, stiffness, got := driver.Weighed(free, loaded, added)
		same(t, "Weighed", []any{mass, stiffness, got}, []any{api.Ratio{}, api.Ratio{}, e})
	}
	outside := []int{0, -1, 10001, math.MinInt, math.MaxInt}
	for _, n := range outside {
		for _, x := range []api.Ratio{ratio(n, 1), ratio(1, n), ratio(n, n), ratio(n, 2), ratio(2, n)} {
			check(x, low, 1, api.ErrRange)
			check(x, ratio(2, 2), 0, api.ErrRange)
			check(high, x, 1, api.ErrRange)
			check(ratio(2, 2), x, 1, api.ErrForm)
		}
	}
	for _, x := range []api.Ratio{ratio(2, 2), ratio(10000, 10000), ratio(4, 6), ratio(6, 4), ratio(10000, 2)} {
		check(x, low, 1, api.ErrForm)
		check(x, ratio(0, 1), 0, api.ErrForm)
		check(high, x, 1, api.ErrForm)
		check(high, x, 0, api.ErrForm)
	}
	for _, added := range []int{0, -1, 101, math.MinInt, math.MaxInt} {
		check(high, low, added, api.ErrRange)
		check(low, high, added, api.ErrRange)
	}
	check(low, high, 1, api.ErrOrder)
	check(low, low, 100, api.ErrOrder)
	check(ratio(9998, 9999), ratio(9999, 10000), 1, api.ErrOrder)
	check(ratio(1, 10000), ratio(10000, 1), 1, api.ErrOrder)
}
