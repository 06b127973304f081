package driver_test

import (
	"math"
	"slices"
	"testing"

	"woofer/api"
	"woofer/driver"
)

// classTo returns the class of a driver up to the given mass, stiffness and loss.
func classTo(d driver.Driver, mass, stiffness, loss int) driver.Class {
	return driver.Class{First: d, Mass: mass, Stiffness: stiffness, Loss: loss}
}

// only returns the class of a single driver.
func only(d driver.Driver) driver.Class {
	return classTo(d, d.Mass, d.Stiffness, d.Loss)
}

// twoMasses is the class of the chapter's example: at the frequency 2 the squares are 100 and 976/20.
func twoMasses() driver.Class {
	return classTo(exampleA, 2, 4, 1)
}

// member returns the driver A with another mass, stiffness and loss.
func member(mass, stiffness, loss int) driver.Driver {
	d := exampleA
	d.Mass, d.Stiffness, d.Loss = mass, stiffness, loss
	return d
}

// wrongClass is a class with its error.
type wrongClass struct {
	c driver.Class
	e api.Errno
}

func wrongClasses() []wrongClass {
	d := member(5, 6, 7)
	list := []wrongClass{
		{driver.Class{}, api.ErrRange},
		{classTo(d, 4, 6, 7), api.ErrRange}, {classTo(d, 5, 5, 7), api.ErrRange}, {classTo(d, 5, 6, 6), api.ErrRange},
		{classTo(d, 100, 5001, 100), api.ErrRange}, {classTo(d, 101, 5000, 100), api.ErrRange}, {classTo(d, 100, 5000, 101), api.ErrRange},
		{classTo(member(1, 1, 1), 1, 4097, 1), api.ErrLarge},
		{classTo(member(1, 1, 1), 17, 241, 1), api.ErrLarge},
		{classTo(member(1, 1, 1), 1, 241, 17), api.ErrLarge},
		{classTo(member(1, 1, 1), 65, 1, 64), api.ErrLarge},
		{classTo(member(1, 1, 1), 100, 5000, 100), api.ErrLarge},
	}
	for _, x := range wrongDrivers() {
		list = append(list, wrongClass{only(x), api.ErrRange}, wrongClass{classTo(x, 100, 5000, 100), api.ErrRange})
	}
	for _, x := range []int{math.MinInt, -1, 0, 5001, math.MaxInt} {
		list = append(list, wrongClass{classTo(d, x, 6, 7), api.ErrRange}, wrongClass{classTo(d, 5, x, 7), api.ErrRange}, wrongClass{classTo(d, 5, 6, x), api.ErrRange})
	}
	return list
}

// P3.4: CheckClass.
func TestCheckClass(t *testing.T) {
	for _, c := range []driver.Class{
		only(exampleA), twoMasses(), only(greatest), only(member(1, 1, 1)), classTo(member(1, 1, 1), 1, 4096, 1), classTo(member(1, 905, 1), 1, 5000, 1),
		classTo(member(1, 1, 1), 16, 16, 16), classTo(member(85, 4985, 85), 100, 5000, 100), classTo(member(1, 1, 1), 64, 1, 64), classTo(member(1, 5000, 1), 100, 5000, 40),
	} {
		same(t, "CheckClass", driver.CheckClass(c), api.OK)
	}
	for _, x := range wrongClasses() {
		same(t, "CheckClass", driver.CheckClass(x.c), x.e)
	}
}

// P3.4: Region of the chapter's examples, and of others.
func TestRegion(t *testing.T) {
	high, low := driver.Reading{W: 2, Least: 90, Most: 110}, driver.Reading{W: 2, Least: 0, Most: 50}
	first, second := member(1, 4, 1), member(2, 4, 1)
	for _, x := range []struct {
		l      []driver.Reading
		region []driver.Driver
	}{
		{[]driver.Reading{high}, []driver.Driver{first}},
		{[]driver.Reading{low}, []driver.Driver{second}},
		{[]driver.Reading{high, low}, nil},
		{nil, []driver.Driver{first, second}},
		{[]driver.Reading{{W: 2, Least: 48, Most: 100}}, []driver.Driver{first, second}},
		{[]driver.Reading{{W: 2, Least: 0, Most: 1000000}, {W: 2, Least: 100, Most: 100}}, []driver.Driver{first}},
	} {
		want(t, "Region", x.region)(driver.Region(twoMasses(), x.l))
	}
	// By mass, then by stiffness, then by loss.
	want(t, "Region", []driver.Driver{
		member(1, 4, 1), member(1, 4, 2), member(1, 5, 1), member(1, 5, 2), member(2, 4, 1), member(2, 4, 2), member(2, 5, 1), member(2, 5, 2),
	})(driver.Region(classTo(exampleA, 2, 5, 2), nil))
}

// P3.4: the number of drivers of a region.
func TestGreatRegions(t *testing.T) {
	least := member(1, 1, 1)
	all := of[[]driver.Driver](t)(driver.Region(classTo(least, 1, 256, 1), nil))
	same(t, "drivers", len(all), 256)
	same(t, "the last one", all[255], member(1, 256, 1))
	for _, c := range []driver.Class{classTo(least, 1, 257, 1), classTo(least, 16, 16, 16)} {
		fails[[]driver.Driver](t, "Region", api.ErrMany)(driver.Region(c, nil))
	}
	// Readings reduce a class that is too great for a region.
	d := driver.Driver{Re: 5, Bl: 20, Mass: 60, Stiffness: 240, Loss: 1}
	first := d
	first.Stiffness = 1
	want(t, "Region at the resonance", []driver.Driver{d})(driver.Region(classTo(first, 60, 4096, 1), []driver.Reading{{W: 2, Least: 160000, Most: 1000000}}))
}

// someClasses returns classes with readings: sweeps of drivers in them and beside them, and others.
func someClasses(t *testing.T) map[driver.Class][]driver.Reading {
	out := map[driver.Class][]driver.Reading{}
	next := random(11)
	for range 150 {
		first := driver.Driver{
			Re: next(1, 9), Le: next(0, 2), Bl: next(1, 9), Mass: next(1, 9), Stiffness: next(1, 60), Loss: next(1, 5),
		}
		c := classTo(first, first.Mass+next(0, 3), first.Stiffness+next(0, 7), first.Loss+next(0, 3))
		var l []driver.Reading
		for range next(0, 8) {
			d := first
			d.Mass, d.Stiffness, d.Loss = next(d.Mass, c.Mass+1), next(d.Stiffness, c.Stiffness+1), next(d.Loss, c.Loss+1)
			l = append(l, of[[]driver.Reading](t)(driver.Sweep(d, []int{next(1, 8)}, next(0, 9)))...)
		}
		out[c] = l
	}
	return out
}

// membersOf returns the drivers of a class, in order.
func membersOf(c driver.Class) []driver.Driver {
	var list []driver.Driver
	for mass := c.First.Mass; mass <= c.Mass; mass++ {
		for stiffness := c.First.Stiffness; stiffness <= c.Stiffness; stiffness++ {
			for loss := c.First.Loss; loss <= c.Loss; loss++ {
				d := c.First
				d.Mass, d.Stiffness, d.Loss = mass, stiffness, loss
				list = append(list, d)
			}
		}
	}
	return list
}

// explaining returns the drivers of a class that explain readings.
func explaining(t *testing.T, c driver.Class, l []driver.Reading) []driver.Driver {
	return slices.DeleteFunc(membersOf(c), func(d driver.Driver) bool {
		return !of[bool](t)(driver.Explains(d, l))
	})
}

// P3.4: Region against all drivers of a class.
func TestRegionIsWholeClass(t *testing.T) {
	few := 0
	for c, l := range someClasses(t) {
		region := of[[]driver.Driver](t)(driver.Region(c, l))
		same(t, "Region", region, explaining(t, c, l))
		if len(region) > 0 && len(region) < len(membersOf(c)) {
			few++
		}
	}
	same(t, "regions with a part of the class", few > 30, true)
}

// P3.4: Conflict of the chapter's example, and which of several is returned.
func TestConflict(t *testing.T) {
	high, low := driver.Reading{W: 2, Least: 90, Most: 110}, driver.Reading{W: 2, Least: 0, Most: 50}
	both, neither := driver.Reading{W: 2, Least: 0, Most: 100}, driver.Reading{W: 2, Least: 500, Most: 1000}
	for _, x := range []struct {
		l        []driver.Reading
		conflict []int
	}{
		{[]driver.Reading{high, low}, []int{0, 1}},
		{[]driver.Reading{high, high, low}, []int{0, 2}},
		{[]driver.Reading{both, high, low, low}, []int{1, 2}},
		{[]driver.Reading{low, both, high, low, high}, []int{0, 2}},
		{[]driver.Reading{neither}, []int{0}},
		{[]driver.Reading{high, low, neither}, []int{2}},
		{[]driver.Reading{neither, low, neither, high}, []int{0}},
		{[]driver.Reading{both, both, both, both, both, both, high, low}, []int{6, 7}},
		{[]driver.Reading{low, low, low, low, low, low, low, high}, []int{0, 7}},
	} {
		want(t, "Conflict", x.conflict)(driver.Conflict(twoMasses(), x.l))
	}
	for _, l := range [][]driver.Reading{nil, {high}, {low, both}, slices.Repeat([]driver.Reading{high, both}, 4)} {
		fails[[]int](t, "Conflict", api.ErrNone)(driver.Conflict(twoMasses(), l))
	}
}

// P3.4: a conflict of three readings, of which no two contradict each other.
func TestConflictOfThree(t *testing.T) {
	c := classTo(member(1, 3, 1), 1, 5, 1)
	d3, d4, d5 := member(1, 3, 1), member(1, 4, 1), member(1, 5, 1)
	// The squares fall with the stiffness at 1 (48.8, 42.4 and 39.8), and have a peak at 2 (87.2, 100 and 87.2).
	soft, stiff := driver.Reading{W: 1, Least: 42, Most: 49}, driver.Reading{W: 1, Least: 39, Most: 43}
	beside, all := driver.Reading{W: 2, Least: 80, Most: 90}, driver.Reading{W: 2, Least: 80, Most: 100}
	same(t, "soft", explaining(t, c, []driver.Reading{soft}), []driver.Driver{d3, d4})
	same(t, "stiff", explaining(t, c, []driver.Reading{stiff}), []driver.Driver{d4, d5})
	same(t, "beside", explaining(t, c, []driver.Reading{beside}), []driver.Driver{d3, d5})
	want(t, "Conflict", []int{0, 1, 2})(driver.Conflict(c, []driver.Reading{soft, stiff, beside}))
	want(t, "Conflict", []int{1, 3, 4})(driver.Conflict(c, []driver.Reading{all, soft, soft, beside, stiff, stiff}))
	want(t, "Conflict", []int{1, 2, 5})(driver.Conflict(c, []driver.Reading{all, stiff, beside, beside, stiff, soft}))
	fails[[]int](t, "Conflict", api.ErrNone)(driver.Conflict(c, []driver.Reading{soft, beside, all, soft}))
}

// fewest returns a conflict with the fewest readings, of several the one that comes first, by all lists of indices.
func fewest(t *testing.T, c driver.Class, l []driver.Reading) []int {
	lists := [][]int{nil}
	for range l {
		var longer [][]int
		for _, x := range lists {
			for i := range l {
				if len(x) == 0 || i > x[len(x)-1] {
					longer = append(longer, append(slices.Clone(x), i))
				}
			}
		}
		lists = longer
		for _, x := range lists {
			if len(explaining(t, c, chosen(l, x))) == 0 {
				return x
			}
		}
	}
	return nil
}

// chosen returns the readings with some indices.
func chosen(l []driver.Reading, indices []int) []driver.Reading {
	var out []driver.Reading
	for _, i := range indices {
		out = append(out, l[i])
	}
	return out
}

// P3.4: Conflict against all lists of readings.
func TestConflictIsFewest(t *testing.T) {
	sizes := map[int]int{}
	for c, l := range someClasses(t) {
		wanted := fewest(t, c, l)
		sizes[len(wanted)]++
		if wanted == nil {
			fails[[]int](t, "Conflict", api.ErrNone)(driver.Conflict(c, l))
		} else {
			want(t, "Conflict", wanted)(driver.Conflict(c, l))
		}
	}
	for n := range 4 {
		same(t, "conflicts of each size", sizes[n] > 0, true)
	}
}

// P3.4: the errors of Region and Conflict, from left to right.
func TestClassErrors(t *testing.T) {
	for _, x := range wrongClasses() {
		for _, l := range [][]driver.Reading{nil, {{W: 1, Least: 2, Most: 1}}, make([]driver.Reading, 33)} {
			fails[[]driver.Driver](t, "Region", x.e)(driver.Region(x.c, l))
			fails[[]int](t, "Conflict", x.e)(driver.Conflict(x.c, l))
		}
	}
	for _, x := range someWrongReadings() {
		fails[[]driver.Driver](t, "Region", x.e)(driver.Region(twoMasses(), x.l))
		fails[[]driver.Driver](t, "Region", x.e)(driver.Region(classTo(member(1, 1, 1), 16, 16, 16), x.l))
		fails[[]int](t, "Conflict", x.e)(driver.Conflict(twoMasses(), x.l))
	}
	wide, none := driver.Reading{W: 1, Least: 0, Most: 1000000}, driver.Reading{W: 1, Least: 0, Most: 0}
	for _, n := range []int{9, 32} {
		for _, r := range []driver.Reading{wide, none} {
			fails[[]int](t, "Conflict", api.ErrLimit)(driver.Conflict(twoMasses(), slices.Repeat([]driver.Reading{r}, n)))
		}
	}
	want(t, "Conflict of eight", []int{0})(driver.Conflict(twoMasses(), slices.Repeat([]driver.Reading{none}, 8)))
	want(t, "Region of 32", membersOf(twoMasses()))(driver.Region(twoMasses(), slices.Repeat([]driver.Reading{wide}, 32)))
}
