package network_test

import (
	"math"
	"testing"

	"woofer/api"
	"woofer/network"
)

// P2.2: Input, Shorted, Transfer, Level and Power of the chapter's examples and of others.
func TestImpedances(t *testing.T) {
	for _, x := range []struct {
		l                        []network.Element
		w                        int
		input, shorted, transfer network.Pair
		level                    api.Ratio
		power                    int
	}{
		{filter(), 1, pair(g(0, 2), g(0, 1)), pair(g(2, 1), g(1, 0)), pair(g(1, 0), g(0, 2)), ratio(1, 4), 2},
		{filter(), 2, pair(g(-3, 4), g(0, 2)), pair(g(2, 2), g(1, 0)), pair(g(1, 0), g(-3, 4)), ratio(1, 25), 8},
		{row(shunt(2, 1), series(0, 1)), 1, pair(g(1, 0), g(2, 1)), pair(g(0, 1), g(0, 2)), pair(g(1, 0), g(1, 0)), ratio(1, 1), 2},
		{row(trap(0, 1)), 3, pair(g(0, 3), g(1, 0)), pair(g(0, 0), g(0, 3)), pair(g(0, 3), g(0, 3)), ratio(1, 1), 0},
		{row(block(0, 1), shunt(1, 0)), 2, pair(g(1, 2), g(0, 2)), pair(g(1, 0), g(0, 2)), pair(g(0, 2), g(1, 2)), ratio(4, 5), 4},
		{row(series(0, 2), shunt(0, 0), trap(0, 4)), 1, pair(g(0, 6), g(1, 0)), pair(g(-8, 0), g(0, 4)), pair(g(0, 4), g(0, 6)), ratio(4, 9), 0},
	} {
		equal(t, "Input", ok[network.Pair](t)(network.Input(x.l, x.w)), x.input)
		equal(t, "Shorted", ok[network.Pair](t)(network.Shorted(x.l, x.w)), x.shorted)
		equal(t, "Transfer", ok[network.Pair](t)(network.Transfer(x.l, x.w)), x.transfer)
		equal(t, "Level", ok[api.Ratio](t)(network.Level(x.l, x.w)), x.level)
		equal(t, "Power", ok[int](t)(network.Power(x.l, x.w)), x.power)
	}
}

// P2.2: infinite impedances and transfers.
func TestPoles(t *testing.T) {
	for _, x := range []struct {
		what string
		l    []network.Element
		w    int
		f    func([]network.Element, int) (network.Pair, api.Errno)
	}{
		{"Input", nil, 1, network.Input},
		{"Input", row(series(8, 8)), 8, network.Input},
		{"Input", row(shunt(0, 0)), 8, network.Input},
		{"Input", row(block(0, 1)), 3, network.Input},
		{"Input", row(shunt(0, 1), series(0, 2), shunt(0, 1)), 1, network.Input},
		{"Shorted", row(shunt(0, 1), series(0, 1)), 1, network.Shorted},
		{"Transfer", row(series(0, 1), shunt(0, 1)), 1, network.Transfer},
		{"Transfer", row(block(0, 1), trap(0, 1)), 1, network.Transfer},
		{"Transfer", row(series(0, 1), trap(0, 1), trap(0, 1), trap(0, 1), shunt(0, 1)), 2, network.Transfer},
	} {
		p, e := x.f(x.l, x.w)
		fails(t, x.what, p, e, api.ErrPole)
	}
	l := row(series(0, 1), shunt(0, 1))
	level, e := network.Level(l, 1)
	fails(t, "Level", level, e, api.ErrPole)
	equal(t, "Level beside the pole", ok[api.Ratio](t)(network.Level(l, 2)), ratio(1, 9))
	// A pole of one of them is none of the others.
	equal(t, "Input", ok[network.Pair](t)(network.Input(l, 1)), pair(g(0, 0), g(0, 1)))
	equal(t, "Shorted", ok[network.Pair](t)(network.Shorted(l, 1)), pair(g(0, 1), g(1, 0)))
	equal(t, "Power", ok[int](t)(network.Power(l, 1)), 0)
	equal(t, "Shorted of nothing", ok[network.Pair](t)(network.Shorted(nil, 1)), pair(g(0, 0), g(1, 0)))
	equal(t, "Transfer of nothing", ok[network.Pair](t)(network.Transfer(nil, 1)), pair(g(1, 0), g(1, 0)))
	equal(t, "Power of nothing", ok[int](t)(network.Power(nil, 1)), 0)
}

// P2.2: quotients are those of the circuit, not reduced, and levels are in lowest terms, also beyond MaxNumber.
func TestImpedancesAreThoseOfCircuit(t *testing.T) {
	beyond, poles := 0, 0
	for _, l := range ladders() {
		for w := 1; w <= network.MaxW; w++ {
			m, d := expected(l, w)
			checkQuotient(t, "Input", network.Input, l, w, m[0], m[2])
			checkQuotient(t, "Shorted", network.Shorted, l, w, m[1], m[3])
			checkQuotient(t, "Transfer", network.Transfer, l, w, d, m[0])
			power := whole(m[0].Re, m[0].Im).times(whole(m[2].Re, -m[2].Im)).gauss().Re
			equal(t, "Power", ok[int](t)(network.Power(l, w)), power)
			level, e := network.Level(l, w)
			if m[0] == (api.Gauss{}) {
				fails(t, "Level", level, e, api.ErrPole)
				poles++
				continue
			}
			equal(t, "Level", e, api.OK)
			wanted := square(d)
			equal(t, "Level", isLevel(level, wanted.Quo(wanted, square(m[0]))), true)
			if level.Den > math.MaxInt32 {
				beyond++
			}
		}
	}
	equal(t, "levels beyond 32 bits", beyond > 50, true)
	equal(t, "poles", poles > 0, true)
}

// checkQuotient requires a quotient from a function, or a pole if its denominator is 0.
func checkQuotient(t *testing.T, what string, f func([]network.Element, int) (network.Pair, api.Errno), l []network.Element, w int, num, den api.Gauss) {
	t.Helper()
	p, e := f(l, w)
	if den == (api.Gauss{}) {
		fails(t, what, p, e, api.ErrPole)
		return
	}
	equal(t, what, e, api.OK)
	equal(t, what, p, pair(num, den))
}

// P2.2: frequencies that are none; they come before poles.
func TestImpedancesAtWrongFrequencies(t *testing.T) {
	for _, w := range wrongFrequencies() {
		for _, l := range [][]network.Element{nil, filter(), row(series(0, 1), shunt(0, 1))} {
			p, e := network.Input(l, w)
			fails(t, "Input", p, e, api.ErrRange)
			p, e = network.Shorted(l, w)
			fails(t, "Shorted", p, e, api.ErrRange)
			p, e = network.Transfer(l, w)
			fails(t, "Transfer", p, e, api.ErrRange)
			level, e := network.Level(l, w)
			fails(t, "Level", level, e, api.ErrRange)
			power, e := network.Power(l, w)
			fails(t, "Power", power, e, api.ErrRange)
		}
	}
}

// P2.2: Lossless.
func TestLossless(t *testing.T) {
	for _, x := range []struct {
		l  []network.Element
		is bool
	}{
		{nil, true},
		{row(series(0, 1), shunt(0, 0), block(0, 8), trap(0, 1)), true},
		{row(series(1, 0)), false},
		{row(shunt(0, 1), shunt(8, 0)), false},
		{row(block(1, 1), series(0, 0)), false},
		{row(series(0, 0), series(0, 0), series(0, 0), series(0, 0), trap(1, 8)), false},
	} {
		equal(t, "Lossless", ok[bool](t)(network.Lossless(x.l)), x.is)
	}
}

// P2.2: Number.
func TestNumber(t *testing.T) {
	const most = 30000
	for _, x := range []struct {
		p network.Pair
		z complex128
	}{
		{pair(g(1, 0), g(1, 1)), 0.5 - 0.5i},
		{pair(g(0, 0), g(0, 1)), 0},
		{pair(g(6, 0), g(3, 0)), 2},
		{pair(g(5, 5), g(1, 2)), 3 - 1i},
		{pair(g(5, 5), g(-2, -1)), -3 - 1i},
		{pair(g(0, 20), g(0, 2)), 10},
		{pair(g(1, -3), g(0, 4)), -0.75 - 0.25i},
		{pair(g(1, 0), g(16384, 0)), 1.0 / 16384},
		{pair(g(1, 0), g(128, 128)), 0.00390625 - 0.00390625i},
		{pair(g(3, 0), g(24576, 0)), 8.0 / 65536},
		{pair(g(1, 1), g(-16384, 0)), -1.0/16384 - 1i/16384},
		{pair(g(most, most), g(1, 0)), most + most*1i},
		{pair(g(-most, most), g(0, -1)), -most - most*1i},
		{pair(g(most, -most), g(most, most)), -1i},
	} {
		z, e := network.Number(x.p)
		equal(t, "Number", e, api.OK)
		equal(t, "Number", z, x.z)
	}
	z, _ := network.Number(pair(g(0, 0), g(-1, 0)))
	equal(t, "no -0", math.Signbit(real(z)) || math.Signbit(imag(z)), false)
}

// P2.2: the steps of 1/65536, on both sides of the limit.
func TestNumberSteps(t *testing.T) {
	for _, x := range []struct {
		num, den api.Gauss
		e        api.Errno
	}{
		{g(1, 0), g(0, 16384), api.OK},
		{g(1, 0), g(16384, 16384), api.OK},
		{g(1, 1), g(16384, 16384), api.OK},
		{g(1, 0), g(16384, 0), api.OK},
		{g(3, 0), g(16384, 16384), api.OK},
		{g(1, 0), g(16385, 0), api.ErrForm},
		{g(1, 0), g(3, 0), api.ErrForm},
		{g(1, 0), g(0, 3), api.ErrForm},
		{g(3, 1), g(3, 0), api.ErrForm},
		{g(1, 3), g(3, 0), api.ErrForm},
		{g(1, 0), g(1, 2), api.ErrForm},
		{g(1, 0), g(24576, 0), api.ErrForm},
		{g(1, 0), g(30000, 0), api.ErrForm},
	} {
		z, e := network.Number(pair(x.num, x.den))
		equal(t, "Number", e, x.e)
		if x.e != api.OK {
			fails(t, "Number", z, e, x.e)
		}
	}
}

// P2.2: quotients that are none.
func TestWrongQuotients(t *testing.T) {
	for _, wrong := range wrongParts() {
		for _, other := range []api.Gauss{g(1, 0), g(0, 0), g(3, 0)} {
			z, e := network.Number(pair(wrong, other))
			fails(t, "Number", z, e, api.ErrRange)
			z, e = network.Number(pair(other, wrong))
			fails(t, "Number", z, e, api.ErrRange)
		}
	}
	for _, num := range []api.Gauss{g(0, 0), g(1, 0), g(-30000, 30000)} {
		z, e := network.Number(pair(num, g(0, 0)))
		fails(t, "Number", z, e, api.ErrZero)
	}
}
