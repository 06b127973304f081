package driver

import (
	"woofer/api"
	"woofer/common"
	"woofer/network"
)

// CheckBox returns the first error of a box, or OK.
func CheckBox(b Box) api.Errno {
	return common.First(common.CheckRange(b.Air, 1, MaxStiffness), checkPort(b))
}

// checkPort returns the first error of the port of a box, or OK.
func checkPort(b Box) api.Errno {
	if !hasPort(b) {
		return common.When(b.Stiffness != 0 || b.Loss != 0, api.ErrShape)
	}
	return common.First(
		common.CheckRange(b.Mass, 1, MaxMass),
		common.CheckRange(b.Stiffness, 0, MaxStiffness),
		common.CheckRange(b.Loss, 1, MaxLoss),
	)
}

func hasPort(b Box) bool {
	return b.Mass != 0
}

// boxed returns the motion of a driver in a box, or the first error of the arguments.
func boxed(d Driver, b Box, w int) (motion, api.Errno) {
	if e := common.First(CheckDriver(d), CheckBox(b), checkFrequency(w)); e != api.OK {
		return motion{}, e
	}
	if !hasPort(b) {
		d.Stiffness += b.Air
		return unported(d, w), api.OK
	}
	air, p := whole(b.Air), mechanics(b.Stiffness, b.Mass, b.Loss, w)
	return moving(d, w, load{air: air, p: p, q: common.Plus(air, p)}), api.OK
}

// Boxed returns the impedance of a driver in a box.
func Boxed(d Driver, b Box, w int) (network.Pair, api.Errno) {
	m, e := boxed(d, b, w)
	return m.impedance, e
}

// Radiated returns the output of a driver in a box.
func Radiated(d Driver, b Box, w int) (network.Pair, api.Errno) {
	m, e := boxed(d, b, w)
	return m.output, e
}

// Moved returns the excursions of a driver in a box and of its port.
func Moved(d Driver, b Box, w int) ([2]network.Pair, api.Errno) {
	m, e := boxed(d, b, w)
	return [2]network.Pair{m.excursion, m.port}, e
}

// Closed returns the driver that a closed box makes of a driver.
func Closed(d Driver, stiffness int) (Driver, api.Errno) {
	e := common.First(
		CheckDriver(d),
		common.CheckRange(stiffness, 0, MaxStiffness),
		common.CheckRange(d.Stiffness+stiffness, 1, MaxStiffness),
	)
	if e != api.OK {
		return Driver{}, e
	}
	d.Stiffness += stiffness
	return d, api.OK
}

// Tuning returns the square of the tuning of a port.
func Tuning(b Box) (api.Ratio, api.Errno) {
	if e := common.First(CheckBox(b), common.When(!hasPort(b), api.ErrNone)); e != api.OK {
		return api.Ratio{}, e
	}
	return common.Lowest(api.Ratio{Num: b.Air + b.Stiffness, Den: b.Mass}), api.OK
}
