package works

import (
	"woofer/api"
	"woofer/common"
)

// The functions of this file return the register behind an event that is accepted, but for the day. They leave the given
// one, with which the result may share memory, as it is.

func addLot(r Register, e api.Event) Register {
	count := e.Values[1]
	r.Lots = with(r.Lots, Lot{Name: e.Names[0], Kind: e.Names[1], Count: count, Left: count})
	return r
}

func addProduct(r Register, e api.Event) Register {
	r.Products = with(r.Products, Product{Name: e.Names[0]})
	return r
}

// isSome reports whether a need is one at all.
func (x Need) isSome() bool {
	return x.Count > 0
}

func setNeed(r Register, e api.Event) Register {
	need := Need{Kind: e.Names[1], Count: e.Values[1]}
	r.Products = changed(r.Products, e.Names[0], func(p Product) Product {
		p.Draft.Needs = common.Filtered(put(p.Draft.Needs, need), Need.isSome)
		return p
	})
	return r
}

func setTest(r Register, e api.Event) Register {
	test := Test{Name: e.Names[1], Low: e.Values[1], High: e.Values[2]}
	r.Products = changed(r.Products, e.Names[0], func(p Product) Product {
		p.Draft.Tests = put(p.Draft.Tests, test)
		return p
	})
	return r
}

func issue(r Register, e api.Event) Register {
	r.Products = changed(r.Products, e.Names[0], func(p Product) Product {
		p.Documents = with(p.Documents, p.Draft)
		return p
	})
	return r
}

func build(r Register, e api.Event) Register {
	product := e.Names[1]
	r.Units = with(r.Units, Unit{Name: e.Names[0], Product: product, Version: r.versionOf(product)})
	return r
}

func use(r Register, e api.Event) Register {
	lot, count := e.Names[1], e.Values[1]
	r.Units = changed(r.Units, e.Names[0], func(u Unit) Unit {
		u.Uses = put(u.Uses, Use{Lot: lot, Count: find(u.Uses, lot).Count + count})
		return u
	})
	r.Lots = changed(r.Lots, lot, func(x Lot) Lot {
		x.Left -= count
		return x
	})
	return r
}

func measure(r Register, e api.Event) Register {
	r.Units = changed(r.Units, e.Names[0], func(u Unit) Unit {
		u.Results = with(u.Results, Result{Test: e.Names[1], Version: u.Version, Value: e.Values[1]})
		return u
	})
	return r
}

func update(r Register, e api.Event) Register {
	r.Units = changed(r.Units, e.Names[0], func(u Unit) Unit {
		u.Version = r.versionOf(u.Product)
		return u
	})
	return r
}

func pair(r Register, e api.Event) Register {
	for i, name := range e.Names {
		r.Units = changed(r.Units, name, func(u Unit) Unit {
			u.Partner = e.Names[1-i]
			return u
		})
	}
	return r
}

func hold(r Register, e api.Event) Register {
	return setHeld(r, e.Names[0], true)
}

func free(r Register, e api.Event) Register {
	return setHeld(r, e.Names[0], false)
}

func setHeld(r Register, lot string, isHeld bool) Register {
	r.Lots = changed(r.Lots, lot, func(x Lot) Lot {
		x.Held = isHeld
		return x
	})
	return r
}

func ship(r Register, e api.Event) Register {
	r.Units = changed(r.Units, e.Names[0], func(u Unit) Unit {
		u.Shipped = true
		return u
	})
	return r
}

func complain(r Register, e api.Event) Register {
	r.Units = changed(r.Units, e.Names[0], func(u Unit) Unit {
		u.Complaints++
		return u
	})
	return r
}
