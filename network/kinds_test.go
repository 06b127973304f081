package network_test

import (
	"slices"
	"testing"

	"woofer/api"
	"woofer/network"
)

// P2.1: Kinds.
func TestKinds(t *testing.T) {
	wanted := []string{"block", "series", "shunt", "trap"}
	l := network.Kinds()
	equalList(t, "Kinds", l, wanted)
	l[0] = "changed"
	equalList(t, "Kinds after a change of its result", network.Kinds(), wanted)
	equal(t, "CheckLadder after it", network.CheckLadder(row(block(1, 1))), api.OK)
}

// P2.1: CheckLadder of ladders without an error.
func TestCheckLadder(t *testing.T) {
	for _, l := range ladders() {
		equal(t, "CheckLadder", network.CheckLadder(l), api.OK)
	}
	equal(t, "the empty ladder", network.CheckLadder([]network.Element{}), api.OK)
	for _, l := range [][]network.Element{
		row(series(0, 0), shunt(0, 0)), row(block(1, 0), block(0, 1), trap(1, 0), trap(0, 1)),
		slices.Repeat(row(trap(8, 8)), 5), row(shunt(8, 0), shunt(0, 8)),
	} {
		equal(t, "CheckLadder at a limit", network.CheckLadder(l), api.OK)
	}
}

// P2.1: the errors of CheckLadder, and that each function of a ladder has them.
func TestWrongLadders(t *testing.T) {
	for _, x := range wrongLadders() {
		equal(t, "CheckLadder: "+x.what, network.CheckLadder(x.l), x.e)
		checkMatrices(t, x, 1)
		checkImpedances(t, x, 1)
		checkLadders(t, x)
		checkTables(t, x, 1, 8)
		// The error of the ladder comes before those of the frequencies.
		for _, w := range wrongFrequencies() {
			checkMatrices(t, x, w)
			checkImpedances(t, x, w)
			checkTables(t, x, w, 0)
		}
	}
}

// checkMatrices requires the error of a ladder from the functions of P2.1 and P2.4.
func checkMatrices(t *testing.T, x wrongLadder, w int) {
	t.Helper()
	m, e := network.Chain(x.l, w)
	fails(t, "Chain: "+x.what, m, e, x.e)
	d, e := network.Divisor(x.l, w)
	fails(t, "Divisor: "+x.what, d, e, x.e)
	entries, divisor, e := network.Polynomials(x.l)
	failsList(t, "Polynomials: "+x.what, divisor, e, x.e)
	equalList(t, "Polynomials: "+x.what, slices.Concat(entries[:]...), nil)
}

// checkImpedances requires the error of a ladder from the functions of P2.2.
func checkImpedances(t *testing.T, x wrongLadder, w int) {
	t.Helper()
	for what, f := range map[string]func([]network.Element, int) (network.Pair, api.Errno){
		"Input: ": network.Input, "Shorted: ": network.Shorted, "Transfer: ": network.Transfer,
	} {
		p, e := f(x.l, w)
		fails(t, what+x.what, p, e, x.e)
	}
	level, e := network.Level(x.l, w)
	fails(t, "Level: "+x.what, level, e, x.e)
	power, e := network.Power(x.l, w)
	fails(t, "Power: "+x.what, power, e, x.e)
	is, e := network.Lossless(x.l)
	fails(t, "Lossless: "+x.what, is, e, x.e)
}

// checkLadders requires the error of a ladder from the functions of P2.3.
func checkLadders(t *testing.T, x wrongLadder) {
	t.Helper()
	l, e := network.Reverse(x.l)
	failsList(t, "Reverse: "+x.what, l, e, x.e)
	l, e = network.Dual(x.l)
	failsList(t, "Dual: "+x.what, l, e, x.e)
	l, e = network.Join(x.l, make([]network.Element, 9))
	failsList(t, "Join: "+x.what, l, e, x.e)
	l, e = network.Join(slices.Repeat(row(series(0, 0)), 5), x.l)
	failsList(t, "Join with it: "+x.what, l, e, x.e)
	s, e := network.Print(x.l)
	fails(t, "Print: "+x.what, s, e, x.e)
}

// checkTables requires the error of a ladder from the functions of P2.5.
func checkTables(t *testing.T, x wrongLadder, from, to int) {
	t.Helper()
	levels, e := network.Table(x.l, from, to)
	failsList(t, "Table: "+x.what, levels, e, x.e)
	w, e := network.Peak(x.l, from, to)
	fails(t, "Peak: "+x.what, w, e, x.e)
	w, e = network.Below(x.l, from, to, ratio(2, 2))
	fails(t, "Below: "+x.what, w, e, x.e)
}
