package network_test

import (
	"slices"
	"testing"

	"woofer/api"
	"woofer/network"
)

// P2.3: Reverse.
func TestReverse(t *testing.T) {
	for _, x := range [][2][]network.Element{
		{nil, nil},
		{filter(), row(shunt(0, 1), series(2, 1))},
		{row(block(1, 2), trap(3, 4), series(5, 6), shunt(7, 8), series(0, 0)), row(series(0, 0), shunt(7, 8), series(5, 6), trap(3, 4), block(1, 2))},
	} {
		equalList(t, "Reverse", ok[[]network.Element](t)(network.Reverse(x[0])), x[1])
	}
}

// P2.3: Dual.
func TestDual(t *testing.T) {
	for _, x := range [][2][]network.Element{
		{nil, nil},
		{filter(), row(shunt(2, 1), series(0, 1))},
		{row(block(1, 2), trap(3, 4), series(5, 6), shunt(7, 8), series(0, 0)), row(trap(1, 2), block(3, 4), shunt(5, 6), series(7, 8), shunt(0, 0))},
	} {
		equalList(t, "Dual", ok[[]network.Element](t)(network.Dual(x[0])), x[1])
	}
}

// P2.3: Join.
func TestJoin(t *testing.T) {
	list := ok[[]network.Element](t)
	a, b := row(series(1, 2), trap(3, 4), block(5, 6)), row(shunt(7, 8), series(0, 0))
	equalList(t, "Join", list(network.Join(a, b)), row(series(1, 2), trap(3, 4), block(5, 6), shunt(7, 8), series(0, 0)))
	equalList(t, "Join", list(network.Join(b, a)), row(shunt(7, 8), series(0, 0), series(1, 2), trap(3, 4), block(5, 6)))
	equalList(t, "Join with nothing", list(network.Join(a, nil)), a)
	equalList(t, "Join behind nothing", list(network.Join(nil, a)), a)
	equalList(t, "Join of nothing", list(network.Join(nil, nil)), nil)
	for n := range network.MaxElements + 1 {
		full := slices.Repeat(row(shunt(0, 0)), n)
		rest := slices.Repeat(row(series(0, 0)), network.MaxElements-n+1)
		if len(rest) > network.MaxElements {
			continue
		}
		l, e := network.Join(full, rest)
		failsList(t, "Join of too many", l, e, api.ErrMany)
	}
}

// P2.3, Memory: arguments are not modified, and results share no memory with them.
func TestLaddersAreCopies(t *testing.T) {
	l := row(block(1, 2), trap(3, 4), series(5, 6))
	wanted := slices.Clone(l)
	list := ok[[]network.Element](t)
	for _, out := range [][]network.Element{
		list(network.Reverse(l)), list(network.Dual(l)), list(network.Join(l, nil)), list(network.Join(nil, l)),
	} {
		out[0].A, out[1].Kind, out[2] = 7, "changed", network.Element{}
		equalList(t, "the argument", l, wanted)
	}
	room := append(make([]network.Element, 0, 8), l...)
	list(network.Join(room[:1], row(shunt(7, 7))))
	equalList(t, "behind the argument", room, wanted)
}
