package works

import (
	"iter"
	"slices"

	"woofer/api"
	"woofer/common"
)

// isHeld reports whether a lot may not be used.
func (x Lot) isHeld() bool {
	return x.Held
}

// isShipped reports whether a unit has left the works.
func (u Unit) isShipped() bool {
	return u.Shipped
}

// copied returns a document that shares no memory with the given one.
func (d Document) copied() Document {
	d.Needs = slices.Clone(d.Needs)
	d.Tests = slices.Clone(d.Tests)
	return d
}

// copied returns a product that shares no memory with the given one, and whose documents share none.
func (p Product) copied() Product {
	p.Draft = p.Draft.copied()
	p.Documents = common.Mapped(p.Documents, Document.copied)
	return p
}

// copied returns a unit that shares no memory with the given one.
func (u Unit) copied() Unit {
	u.Uses = slices.Clone(u.Uses)
	u.Results = slices.Clone(u.Results)
	return u
}

// copied returns a register that shares no memory with the given one: registers of a history share what did not change.
func (r Register) copied() Register {
	r.Lots = slices.Clone(r.Lots)
	r.Products = common.Mapped(r.Products, Product.copied)
	r.Units = common.Mapped(r.Units, Unit.copied)
	return r
}

func (r Register) hasLot(name string) bool     { return has(r.Lots, name) }
func (r Register) hasProduct(name string) bool { return has(r.Products, name) }
func (r Register) hasUnit(name string) bool    { return has(r.Units, name) }

// versionOf returns the version of a product.
func (r Register) versionOf(product string) int {
	return len(find(r.Products, product).Documents)
}

// documentOf returns the document of the version of a unit.
func (r Register) documentOf(u Unit) Document {
	return find(r.Products, u.Product).Documents[u.Version-1]
}

// usesOf visits the lots that a unit uses, in the order of its uses, each with the count of its use.
func (r Register) usesOf(u Unit) iter.Seq2[Lot, int] {
	return func(yield func(Lot, int) bool) {
		for _, use := range u.Uses {
			if !yield(find(r.Lots, use.Lot), use.Count) {
				return
			}
		}
	}
}

// lotsOf returns the lots that a unit uses, in the order of its uses.
func (r Register) lotsOf(u Unit) []Lot {
	var lots []Lot
	for lot := range r.usesOf(u) {
		lots = append(lots, lot)
	}
	return lots
}

// usersOf returns the units that use one of some lots, in their order.
func (r Register) usersOf(lots ...string) []Unit {
	var users []Unit
search:
	for _, u := range r.Units {
		for lot := range r.usesOf(u) {
			if slices.Contains(lots, lot.Name) {
				users = append(users, u)
				continue search
			}
		}
	}
	return users
}

// isComplete reports whether a unit has all parts that its document needs.
func (r Register) isComplete(u Unit) bool {
	parts := map[string]int{}
	for lot, count := range r.usesOf(u) {
		parts[lot.Kind] += count
	}
	return !slices.ContainsFunc(r.documentOf(u).Needs, func(n Need) bool { return parts[n.Kind] < n.Count })
}

// passes reports whether a unit has a result of a test at its version, and the last one of these lies within the limits.
func (u Unit) passes(t Test) bool {
	passed := false
	for _, x := range u.Results {
		if x == (Result{Test: t.Name, Version: u.Version, Value: x.Value}) {
			passed = common.Within(x.Value, t.Low, t.High)
		}
	}
	return passed
}

// missingOf returns the tests of the document of a unit that it does not pass, in their order.
func (r Register) missingOf(u Unit) []Test {
	return common.Filtered(r.documentOf(u).Tests, func(t Test) bool { return !u.passes(t) })
}

// checkReady returns the first error of a unit that is not ready, or OK.
func (r Register) checkReady(u Unit) api.Errno {
	return common.First(
		common.When(u.Shipped, api.ErrOver),
		common.When(u.Version != r.versionOf(u.Product), api.ErrVersion),
		common.When(!r.isComplete(u), api.ErrState),
		common.When(len(r.missingOf(u)) > 0, api.ErrFail),
		common.When(slices.ContainsFunc(r.lotsOf(u), Lot.isHeld), api.ErrHold),
	)
}
