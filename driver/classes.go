package driver

import (
	"iter"
	"math/bits"
	"slices"

	"woofer/api"
	"woofer/common"
)

// CheckClass returns the first error of a class of drivers, or OK.
func CheckClass(c Class) api.Errno {
	isBelow := c.Mass < c.First.Mass || c.Stiffness < c.First.Stiffness || c.Loss < c.First.Loss
	return common.First(
		CheckDriver(c.First),
		CheckDriver(lastOf(c)),
		common.When(isBelow, api.ErrRange),
		common.When(sizeOf(c) > MaxClass, api.ErrLarge),
	)
}

// lastOf returns the last driver of a class.
func lastOf(c Class) Driver {
	d := c.First
	d.Mass, d.Stiffness, d.Loss = c.Mass, c.Stiffness, c.Loss
	return d
}

// sizeOf returns the number of drivers of a class.
func sizeOf(c Class) int {
	return (c.Mass - c.First.Mass + 1) * (c.Stiffness - c.First.Stiffness + 1) * (c.Loss - c.First.Loss + 1)
}

// driversOf visits the drivers of a class in their order.
func driversOf(c Class) iter.Seq[Driver] {
	end := following(c, lastOf(c))
	return func(yield func(Driver) bool) {
		for d := c.First; d != end; d = following(c, d) {
			if !yield(d) {
				return
			}
		}
	}
}

// following returns the driver behind another one; behind the last one it has a mass that the class does not have.
func following(c Class, d Driver) Driver {
	d.Loss++
	if d.Loss > c.Loss {
		d.Loss = c.First.Loss
		d.Stiffness++
	}
	if d.Stiffness > c.Stiffness {
		d.Stiffness = c.First.Stiffness
		d.Mass++
	}
	return d
}

// Region returns the drivers of a class that explain readings.
func Region(c Class, l []Reading) ([]Driver, api.Errno) {
	if e := common.First(CheckClass(c), CheckReadings(l)); e != api.OK {
		return nil, e
	}
	// Most drivers of a large class explain few readings: they need not be asked about all.
	asked := questions(narrowestFirst(l))
	region := common.Filtered(slices.Collect(driversOf(c)), func(d Driver) bool {
		return explainsAll(d, asked)
	})
	if len(region) > api.MaxList {
		return nil, api.ErrMany
	}
	return region, api.OK
}

// set is a set of readings: a bit for each, the highest one for the first reading. So of two sets with as many
// readings the one that comes first is the greater number.
type set uint

// setOf returns the set of one of n readings.
func setOf(i, n int) set {
	return 1 << (n - 1 - i)
}

// indices returns the indices of the readings of a set, of n in all.
func (s set) indices(n int) []int {
	var out []int
	for i := range n {
		if s&setOf(i, n) != 0 {
			out = append(out, i)
		}
	}
	return out
}

// Conflict returns the fewest readings that no driver of a class explains.
func Conflict(c Class, l []Reading) ([]int, api.Errno) {
	e := common.First(
		CheckClass(c),
		CheckReadings(l),
		common.When(len(l) > api.MaxExact, api.ErrLimit),
	)
	if e != api.OK {
		return nil, e
	}
	explained := explainedSets(c, l)
	found := set(0)
search:
	for size := range len(l) + 1 {
		for s := set(1)<<len(l) - 1; s > 0; s-- {
			if bits.OnesCount(uint(s)) == size && !isPart(s, explained) {
				found = s
				break search
			}
		}
	}
	return found.indices(len(l)), common.When(found == 0, api.ErrNone)
}

// explainedSets returns for each driver of a class the set of all readings that it explains.
func explainedSets(c Class, l []Reading) map[set]bool {
	explained := map[set]bool{}
	asked := questions(l)
	for d := range driversOf(c) {
		all := set(0)
		for _, q := range common.Filtered(asked, func(q question) bool { return q.explainedBy(d) }) {
			all |= q.reading
		}
		explained[all] = true
	}
	return explained
}

// isPart reports whether one of some sets has all readings of a set.
func isPart(s set, sets map[set]bool) bool {
	for all := range sets {
		if s&all == s {
			return true
		}
	}
	return false
}
