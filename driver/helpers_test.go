package driver_test

import (
	"fmt"
	"math"
	"testing"

	"woofer/api"
	"woofer/driver"
	"woofer/network"
)

// same compares a result with the expected one; printed, nil and the empty list are equal.
func same(t *testing.T, what string, got, wanted any) {
	t.Helper()
	if g, w := fmt.Sprint(got), fmt.Sprint(wanted); g != w {
		t.Errorf("%s: got %s, want %s", what, g, w)
	}
}

// want requires a result without an error.
func want[T any](t *testing.T, what string, wanted T) func(T, api.Errno) {
	return func(got T, e api.Errno) {
		t.Helper()
		same(t, what+": error", e, api.OK)
		same(t, what, got, wanted)
	}
}

// fails requires an error, and nothing beside it.
func fails[T any](t *testing.T, what string, wanted api.Errno) func(T, api.Errno) {
	return func(got T, e api.Errno) {
		t.Helper()
		var zero T
		same(t, what+": error", e, wanted)
		same(t, what+": beside the error", got, zero)
	}
}

// of requires a result without an error, and returns it.
func of[T any](t *testing.T) func(T, api.Errno) T {
	return func(got T, e api.Errno) T {
		t.Helper()
		same(t, "error", e, api.OK)
		return got
	}
}

// g is re + i im.
func g(re, im int) api.Gauss {
	return api.Gauss{Re: re, Im: im}
}

func pair(num, den api.Gauss) network.Pair {
	return network.Pair{Num: num, Den: den}
}

func ratio(num, den int) api.Ratio {
	return api.Ratio{Num: num, Den: den}
}

// exampleA and exampleB are the driver A and the box B of the chapter's examples.
var (
	exampleA = driver.Driver{Re: 6, Le: 0, Bl: 2, Mass: 1, Stiffness: 4, Loss: 1}
	exampleB = driver.Box{Air: 2, Mass: 1, Stiffness: 0, Loss: 1}
)

// greatest is the driver with the greatest numbers.
var greatest = driver.Driver{Re: 50, Le: 10, Bl: 20, Mass: 100, Stiffness: 5000, Loss: 100}

// random returns a function that draws integers from least to most.
func random(key int) func(least, most int) int {
	x := key
	return func(least, most int) int {
		x = x * 48271 % 2147483647
		return least + (x>>7)%(most-least+1)
	}
}

// someDrivers returns the drivers whose numbers are least or greatest, and some others.
func someDrivers() []driver.Driver {
	list := []driver.Driver{exampleA}
	for bits := range 64 {
		pick := func(bit, least, most int) int {
			if bits>>bit&1 == 1 {
				return most
			}
			return least
		}
		list = append(list, driver.Driver{
			Re: pick(0, 1, 50), Le: pick(1, 0, 10), Bl: pick(2, 1, 20), Mass: pick(3, 1, 100), Stiffness: pick(4, 1, 5000), Loss: pick(5, 1, 100),
		})
	}
	next := random(3)
	for range 200 {
		list = append(list, driver.Driver{
			Re: next(1, 50), Le: next(0, 10), Bl: next(1, 20), Mass: next(1, 100), Stiffness: next(1, 5000), Loss: next(1, 100),
		})
	}
	return list
}

// someBoxes returns boxes of all sorts.
func someBoxes() []driver.Box {
	list := []driver.Box{
		exampleB, {Air: 1}, {Air: 5}, {Air: 5000}, {Air: 1, Mass: 1, Loss: 1}, {Air: 5000, Mass: 100, Loss: 100},
		{Air: 5000, Mass: 1, Stiffness: 5000, Loss: 100}, {Air: 1, Mass: 100, Stiffness: 1, Loss: 1}, {Air: 9, Mass: 4, Stiffness: 64, Loss: 2},
	}
	next := random(5)
	for range 10 {
		list = append(list, driver.Box{Air: next(1, 5000)})
		list = append(list, driver.Box{Air: next(1, 5000), Mass: next(1, 100), Stiffness: next(0, 5000), Loss: next(1, 100)})
		list = append(list, driver.Box{Air: next(1, 50), Mass: next(1, 100), Stiffness: next(0, 9), Loss: next(1, 100)})
	}
	return list
}

// wrongDrivers returns drivers with one number that is not in its range; all of them are ErrRange.
func wrongDrivers() []driver.Driver {
	var list []driver.Driver
	for _, far := range []int{0, -1, math.MinInt, math.MaxInt} {
		for i, limits := range [][2]int{{1, 50}, {0, 10}, {1, 20}, {1, 100}, {1, 5000}, {1, 100}} {
			for _, x := range []int{limits[0] - 1, limits[1] + 1, far} {
				if x == 0 && limits[0] == 0 {
					continue
				}
				d := exampleA
				*[]*int{&d.Re, &d.Le, &d.Bl, &d.Mass, &d.Stiffness, &d.Loss}[i] = x
				list = append(list, d)
			}
		}
	}
	return append(list, driver.Driver{}, driver.Driver{Re: 51, Le: 11, Bl: 21, Mass: 101, Stiffness: 5001, Loss: 101})
}

// wrongBox is a box with its error.
type wrongBox struct {
	b driver.Box
	e api.Errno
}

// wrongBoxes returns boxes with each error, and with two errors, of which the first one decides.
func wrongBoxes() []wrongBox {
	list := []wrongBox{
		{driver.Box{Air: 1, Stiffness: 1}, api.ErrShape},
		{driver.Box{Air: 5000, Loss: 1}, api.ErrShape},
		{driver.Box{Air: 1, Stiffness: -1}, api.ErrShape},
		{driver.Box{Air: 1, Loss: -1}, api.ErrShape},
		{driver.Box{Air: 1, Stiffness: 9999, Loss: 9999}, api.ErrShape},
		{driver.Box{Air: 0, Stiffness: 1}, api.ErrRange},
		{driver.Box{Air: 5001, Loss: 1}, api.ErrRange},
		{driver.Box{}, api.ErrRange},
		{driver.Box{Air: 2, Mass: 1}, api.ErrRange},
	}
	for _, x := range []int{math.MinInt, -1, 0, 5001, math.MaxInt} {
		list = append(list, wrongBox{driver.Box{Air: x}, api.ErrRange}, wrongBox{driver.Box{Air: x, Mass: 1, Loss: 1}, api.ErrRange})
	}
	for _, x := range []int{math.MinInt, -1, 101, math.MaxInt} {
		list = append(list, wrongBox{driver.Box{Air: 2, Mass: x, Loss: 1}, api.ErrRange}, wrongBox{driver.Box{Air: 2, Mass: 1, Loss: x}, api.ErrRange})
	}
	for _, x := range []int{math.MinInt, -1, 5001, math.MaxInt} {
		list = append(list, wrongBox{driver.Box{Air: 2, Mass: 1, Stiffness: x, Loss: 1}, api.ErrRange})
	}
	return list
}

// wrongFrequencies are integers that are no frequencies.
var wrongFrequencies = []int{0, -1, 9, math.MinInt, math.MaxInt}
