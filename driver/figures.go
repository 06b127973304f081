package driver

import (
	"woofer/api"
	"woofer/common"
	"woofer/signal"
)

// Resonance returns the square of the resonance.
func Resonance(d Driver) (api.Ratio, api.Errno) {
	if e := CheckDriver(d); e != api.OK {
		return api.Ratio{}, e
	}
	return common.Lowest(api.Ratio{Num: d.Stiffness, Den: d.Mass}), api.OK
}

// Quality returns the squares of the mechanical, the electrical and the total quality.
func Quality(d Driver) ([3]api.Ratio, api.Errno) {
	if e := CheckDriver(d); e != api.OK {
		return [3]api.Ratio{}, e
	}
	product := d.Stiffness * d.Mass
	return [3]api.Ratio{
		timesSquare(product, 1, d.Loss),
		timesSquare(product, d.Re, d.Bl*d.Bl),
		timesSquare(product, d.Re, d.Loss*d.Re+d.Bl*d.Bl),
	}, api.OK
}

// timesSquare returns a product times the square of num / den, in lowest terms.
func timesSquare(product, num, den int) api.Ratio {
	return common.Lowest(api.Ratio{Num: product * num * num, Den: den * den})
}

// Weighed returns the mass and the stiffness that two resonances tell.
func Weighed(free, loaded api.Ratio, added int) (api.Ratio, api.Ratio, api.Errno) {
	e := common.First(
		checkTerms(free),
		checkTerms(loaded),
		common.CheckRange(added, 1, MaxAdded),
		common.When(common.Compare(free, loaded) <= 0, api.ErrOrder),
	)
	if e != api.OK {
		return api.Ratio{}, api.Ratio{}, e
	}
	// The mass is g times the added one by f - g, here with the denominators of both squares multiplied away.
	difference := free.Num*loaded.Den - loaded.Num*free.Den
	mass := api.Ratio{Num: added * loaded.Num * free.Den, Den: difference}
	stiffness := api.Ratio{Num: added * loaded.Num * free.Num, Den: difference}
	return common.Lowest(mass), common.Lowest(stiffness), api.OK
}

// checkTerms returns the first error of the square of a resonance, or OK.
func checkTerms(x api.Ratio) api.Errno {
	return common.First(
		common.CheckRange(x.Num, 1, MaxTerm),
		common.CheckRange(x.Den, 1, MaxTerm),
		signal.CheckRatio(x),
	)
}
