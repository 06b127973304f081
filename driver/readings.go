package driver

import (
	"cmp"
	"slices"

	"woofer/api"
	"woofer/common"
)

// question asks drivers about a reading.
type question struct {
	reading     set // of this reading alone
	explainedBy func(d Driver) bool
}

// questions returns the questions about readings.
func questions(l []Reading) []question {
	asked := make([]question, len(l))
	for i, r := range l {
		asked[i] = question{reading: setOf(i, len(l)), explainedBy: func(d Driver) bool {
			x := squared(d, r.W)
			return common.Within(x.Num, r.Least*x.Den, r.Most*x.Den)
		}}
	}
	return asked
}

// explainsAll reports whether a driver explains all readings.
func explainsAll(d Driver, asked []question) bool {
	for _, q := range asked {
		if !q.explainedBy(d) {
			return false
		}
	}
	return true
}

// squared returns the squared absolute value of the impedance of a driver, not in lowest terms.
func squared(d Driver, w int) api.Ratio {
	z := unported(d, w).impedance
	return api.Ratio{Num: common.Square(z.Num), Den: common.Square(z.Den)}
}

// CheckReadings returns the first error of readings, or OK.
func CheckReadings(l []Reading) api.Errno {
	if len(l) > MaxReadings {
		return api.ErrMany
	}
	return common.First(common.Mapped(l, checkReading)...)
}

// checkReading returns the first error of a reading, or OK.
func checkReading(r Reading) api.Errno {
	return common.First(
		checkFrequency(r.W),
		common.CheckRange(r.Least, 0, MaxSquare),
		common.CheckRange(r.Most, 0, MaxSquare),
		common.When(r.Least > r.Most, api.ErrOrder),
	)
}

// Explains reports whether a driver explains readings.
func Explains(d Driver, l []Reading) (bool, api.Errno) {
	if e := common.First(CheckDriver(d), CheckReadings(l)); e != api.OK {
		return false, e
	}
	return explainsAll(d, questions(l)), api.OK
}

// narrowestFirst returns readings in an order in which those that few drivers explain come early.
func narrowestFirst(l []Reading) []Reading {
	sorted := slices.Clone(l)
	slices.SortStableFunc(sorted, func(a, b Reading) int {
		return cmp.Compare(a.Most-a.Least, b.Most-b.Least)
	})
	return sorted
}

// Sweep returns readings of a driver with an error.
func Sweep(d Driver, w []int, percent int) ([]Reading, api.Errno) {
	e := common.First(
		CheckDriver(d),
		checkFrequencies(w),
		common.CheckRange(percent, 0, MaxPercent),
	)
	if e != api.OK {
		return nil, e
	}
	return common.Mapped(w, func(w int) Reading {
		x := squared(d, w)
		hundred := 100 * x.Den
		// What is added before the division rounds it up.
		return Reading{W: w, Least: x.Num * (100 - percent) / hundred, Most: (x.Num*(100+percent) + hundred - 1) / hundred}
	}), api.OK
}

// checkFrequencies returns the first error of frequencies, or OK.
func checkFrequencies(w []int) api.Errno {
	if len(w) > MaxReadings {
		return api.ErrMany
	}
	return common.First(common.Mapped(w, checkFrequency)...)
}
