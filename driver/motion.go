package driver

import (
	"woofer/api"
	"woofer/common"
	"woofer/network"
)

// motion is what the voltage 1 does to a driver at a frequency, by itself or in a box.
type motion struct {
	mechanics api.Gauss // of the driver alone
	impedance network.Pair
	excursion network.Pair // of the driver
	port      network.Pair // the excursion of the port
	output    network.Pair
}

// load is what a driver moves besides itself: the air of a box with a port, P and Q.
type load struct {
	air api.Gauss
	p   api.Gauss
	q   api.Gauss
}

// mechanics returns the mechanics of a driver, or of a port.
func mechanics(stiffness, mass, loss, w int) api.Gauss {
	return api.Gauss{Re: stiffness - w*w*mass, Im: w * loss}
}

// moving returns the motion of a driver with a load.
func moving(d Driver, w int, l load) motion {
	alone := mechanics(d.Stiffness, d.Mass, d.Loss, w)
	coil := api.Gauss{Re: d.Re, Im: w * d.Le}
	force := api.Gauss{Im: w * d.Bl * d.Bl}
	den := common.Plus(common.Times(alone, l.q), common.Times(l.air, l.p))
	num := common.Plus(common.Times(coil, den), common.Times(force, l.q))
	return motion{
		mechanics: alone,
		impedance: network.Pair{Num: num, Den: den},
		excursion: network.Pair{Num: common.Times(whole(d.Bl), l.q), Den: num},
		port:      network.Pair{Num: common.Times(whole(d.Bl), l.air), Den: num},
		output:    network.Pair{Num: common.Times(whole(-w*w*d.Bl), l.p), Den: num},
	}
}

// unported returns the motion of a driver without a port.
func unported(d Driver, w int) motion {
	// Quotients are not reduced: so P and Q are 1, and not just equal.
	m := moving(d, w, load{p: whole(1), q: whole(1)})
	m.port = network.Pair{Num: whole(0), Den: whole(1)}
	return m
}

// whole returns an integer as a complex one.
func whole(n int) api.Gauss {
	return api.Gauss{Re: n}
}

// unboxed returns the motion of a driver by itself, or the first error of the arguments.
func unboxed(d Driver, w int) (motion, api.Errno) {
	if e := common.First(CheckDriver(d), checkFrequency(w)); e != api.OK {
		return motion{}, e
	}
	return unported(d, w), api.OK
}

// Mechanics returns the mechanics of a driver.
func Mechanics(d Driver, w int) (api.Gauss, api.Errno) {
	m, e := unboxed(d, w)
	return m.mechanics, e
}

// Impedance returns the impedance of a driver.
func Impedance(d Driver, w int) (network.Pair, api.Errno) {
	m, e := unboxed(d, w)
	return m.impedance, e
}

// Excursion returns the excursion of a driver.
func Excursion(d Driver, w int) (network.Pair, api.Errno) {
	m, e := unboxed(d, w)
	return m.excursion, e
}

// Output returns the output of a driver.
func Output(d Driver, w int) (network.Pair, api.Errno) {
	m, e := unboxed(d, w)
	return m.output, e
}
