package network_test

import (
	"testing"

	"woofer/api"
	"woofer/network"
)

// P2.1: Chain and Divisor of the chapter's examples, and of each kind.
func TestChain(t *testing.T) {
	for _, x := range []struct {
		l []network.Element
		w int
		m network.Matrix
		d api.Gauss
	}{
		{filter(), 1, network.Matrix{g(0, 2), g(2, 1), g(0, 1), g(1, 0)}, g(1, 0)},
		{filter(), 2, network.Matrix{g(-3, 4), g(2, 2), g(0, 2), g(1, 0)}, g(1, 0)},
		{row(block(0, 1)), 2, network.Matrix{g(0, 2), g(1, 0), g(0, 0), g(0, 2)}, g(0, 2)},
		{row(shunt(2, 1), series(0, 1)), 1, network.Matrix{g(1, 0), g(0, 1), g(2, 1), g(0, 2)}, g(1, 0)},
		{nil, 1, network.Matrix{g(1, 0), g(0, 0), g(0, 0), g(1, 0)}, g(1, 0)},
		{nil, 8, network.Matrix{g(1, 0), g(0, 0), g(0, 0), g(1, 0)}, g(1, 0)},
		{row(series(3, 2)), 8, network.Matrix{g(1, 0), g(3, 16), g(0, 0), g(1, 0)}, g(1, 0)},
		{row(shunt(3, 2)), 8, network.Matrix{g(1, 0), g(0, 0), g(3, 16), g(1, 0)}, g(1, 0)},
		{row(block(3, 2)), 8, network.Matrix{g(3, 16), g(1, 0), g(0, 0), g(3, 16)}, g(3, 16)},
		{row(trap(3, 2)), 8, network.Matrix{g(3, 16), g(0, 0), g(1, 0), g(3, 16)}, g(3, 16)},
		{row(block(1, 0), trap(0, 1)), 1, network.Matrix{g(1, 1), g(0, 1), g(1, 0), g(0, 1)}, g(0, 1)},
	} {
		m, e := network.Chain(x.l, x.w)
		equal(t, "Chain", e, api.OK)
		equal(t, "Chain", m, x.m)
		d, e := network.Divisor(x.l, x.w)
		equal(t, "Divisor", e, api.OK)
		equal(t, "Divisor", d, x.d)
	}
}

// P2.1: Chain and Divisor against a walk along the circuit, within MaxEntry.
func TestChainIsCircuit(t *testing.T) {
	for _, l := range ladders() {
		for w := 1; w <= network.MaxW; w++ {
			m, d := expected(l, w)
			equal(t, "Chain", ok[network.Matrix](t)(network.Chain(l, w)), m)
			equal(t, "Divisor", ok[api.Gauss](t)(network.Divisor(l, w)), d)
			for _, z := range m {
				equal(t, "within MaxEntry", max(z.Re, -z.Re, z.Im, -z.Im) <= network.MaxEntry, true)
			}
		}
	}
}

// P2.1: frequencies that are none.
func TestChainAtWrongFrequencies(t *testing.T) {
	for _, w := range wrongFrequencies() {
		m, e := network.Chain(filter(), w)
		fails(t, "Chain", m, e, api.ErrRange)
		d, e := network.Divisor(filter(), w)
		fails(t, "Divisor", d, e, api.ErrRange)
	}
}

// P2.1: Product and Determinant.
func TestProduct(t *testing.T) {
	const most = 30000
	one := network.Matrix{g(1, 0), g(0, 0), g(0, 0), g(1, 0)}
	a := network.Matrix{g(1, 2), g(-3, 4), g(5, -6), g(0, 7)}
	b := network.Matrix{g(2, 0), g(0, 1), g(1, -1), g(-4, 3)}
	greatest := network.Matrix{g(most, most), g(most, most), g(most, most), g(most, most)}
	least := network.Matrix{g(-most, -most), g(most, -most), g(-most, most), g(-most, 0)}
	for _, x := range []struct {
		a, b, product network.Matrix
	}{
		{one, a, a},
		{a, one, a},
		{a, b, network.Matrix{g(3, 11), g(-2, -24), g(17, -5), g(-15, -23)}},
		{network.Matrix{g(1, 0), g(2, 1), g(0, 0), g(1, 0)}, network.Matrix{g(1, 0), g(0, 0), g(0, 1), g(1, 0)}, network.Matrix{g(0, 2), g(2, 1), g(0, 1), g(1, 0)}},
		{network.Matrix{}, a, network.Matrix{}},
		{greatest, greatest, network.Matrix{g(0, 4*most*most), g(0, 4*most*most), g(0, 4*most*most), g(0, 4*most*most)}},
		{least, greatest, network.Matrix{g(2*most*most, -2*most*most), g(2*most*most, -2*most*most), g(-3*most*most, -most*most), g(-3*most*most, -most*most)}},
	} {
		equal(t, "Product", ok[network.Matrix](t)(network.Product(x.a, x.b)), x.product)
	}
	for _, x := range []struct {
		m network.Matrix
		d api.Gauss
	}{
		{one, g(1, 0)},
		{a, g(-23, -31)},
		{b, g(-9, 5)},
		{greatest, g(0, 0)},
		{least, g(most*most, -most*most)},
		{network.Matrix{g(0, 2), g(2, 1), g(0, 1), g(1, 0)}, g(1, 0)},
		{network.Matrix{}, g(0, 0)},
	} {
		equal(t, "Determinant", ok[api.Gauss](t)(network.Determinant(x.m)), x.d)
	}
}

// P2.1: matrices beyond the range, at each entry.
func TestWrongMatrices(t *testing.T) {
	right := network.Matrix{g(30000, -30000), g(1, 0), g(0, 1), g(-30000, 30000)}
	for _, z := range wrongParts() {
		for i := range right {
			wrong := right
			wrong[i] = z
			m, e := network.Product(wrong, right)
			fails(t, "Product", m, e, api.ErrRange)
			m, e = network.Product(right, wrong)
			fails(t, "Product", m, e, api.ErrRange)
			d, e := network.Determinant(wrong)
			fails(t, "Determinant", d, e, api.ErrRange)
		}
	}
}
