package line_test

import (
	"strings"
	"testing"

	"woofer/api"
	"woofer/line"
)

// P9.1: CheckUnits of units without an error, at the limits, too.
func TestCheckUnits(t *testing.T) {
	const most = line.MaxValue
	for _, l := range append(someUnits(), [][]unit{
		{measured("a", 0)},
		{measured("Z_9", -most), measured("z_9", most)},
		{measured(strings.Repeat("n", api.MaxName), repeated(most, line.MaxTests)...)},
		{measured("a", 1, 2), measured("A", 1, 2), measured("a_", 1, 2), measured("a1", 1, 2)},
		numbered(line.MaxUnits, func(int) []int { return repeated(-most, line.MaxTests) }),
	}...) {
		same(t, "CheckUnits", line.CheckUnits(l), api.OK)
	}
}

// P9.1: the errors of units: of too many ones, and of the first one that has an error, in their order.
func TestCheckWrongUnits(t *testing.T) {
	for _, x := range wrongLists() {
		same(t, "CheckUnits", line.CheckUnits(x.l), x.e)
	}
}
