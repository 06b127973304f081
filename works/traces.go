package works

import (
	"slices"

	"woofer/api"
	"woofer/common"
)

// madeFrom returns the lots that a unit uses.
func (r Register) madeFrom(unit string) ([]string, api.Errno) {
	if !r.hasUnit(unit) {
		return nil, api.ErrUnknown
	}
	return keysOf(r.lotsOf(find(r.Units, unit))), api.OK
}

// whereUsed returns the units that use a lot.
func (r Register) whereUsed(lot string) ([]string, api.Errno) {
	if !r.hasLot(lot) {
		return nil, api.ErrUnknown
	}
	return keysOf(r.usersOf(lot)), api.OK
}

// missing returns the tests that a unit does not pass.
func (r Register) missing(unit string) ([]string, api.Errno) {
	if !r.hasUnit(unit) {
		return nil, api.ErrUnknown
	}
	return keysOf(r.missingOf(find(r.Units, unit))), api.OK
}

// stock returns how many parts of a kind are left in lots that are not held.
func (r Register) stock(kind string) (int, api.Errno) {
	if err := checkName(kind); err != api.OK {
		return 0, err
	}
	left := 0
	for _, x := range r.Lots {
		if x.Kind == kind && !x.Held {
			left += x.Left
		}
	}
	return left, api.OK
}

// checkKnown returns the first error of names that a register has to know, or OK.
func checkKnown(names []string, isKnown func(name string) bool) api.Errno {
	return common.First(
		common.When(len(names) > api.MaxList, api.ErrMany),
		common.First(common.Mapped(names, func(name string) api.Errno {
			return common.When(!isKnown(name), api.ErrUnknown)
		})...),
	)
}

// recall returns the units that a recall of lots concerns.
func (r Register) recall(lots []string) ([]string, api.Errno) {
	if err := checkKnown(lots, r.hasLot); err != api.OK {
		return nil, err
	}
	users := common.Filtered(r.usersOf(lots...), Unit.isShipped)
	concerned := common.Filtered(r.Units, func(u Unit) bool {
		return has(users, u.Name) || u.Shipped && has(users, u.Partner)
	})
	return keysOf(concerned), api.OK
}

// causes returns the lots that all of some units use.
func (r Register) causes(units []string) ([]string, api.Errno) {
	if err := common.First(checkKnown(units, r.hasUnit), common.When(len(units) == 0, api.ErrEmpty)); err != api.OK {
		return nil, err
	}
	shared := common.Filtered(r.Lots, func(x Lot) bool {
		return !slices.ContainsFunc(units, func(unit string) bool {
			return !has(find(r.Units, unit).Uses, x.Name)
		})
	})
	return keysOf(shared), api.OK
}

// traced returns what a trace finds in the register after some events.
func traced[A, B any](l []api.Event, trace func(r Register, of A) (B, api.Errno), of A) (B, api.Errno) {
	h, _, err := historyOf(l)
	if err != api.OK {
		var none B
		return none, err
	}
	return trace(h.register(), of)
}

// MadeFrom returns the lots that a unit uses.
func MadeFrom(l []api.Event, unit string) ([]string, api.Errno) {
	return traced(l, Register.madeFrom, unit)
}

// WhereUsed returns the units that use a lot.
func WhereUsed(l []api.Event, lot string) ([]string, api.Errno) {
	return traced(l, Register.whereUsed, lot)
}

// Recall returns the units that a recall of lots concerns.
func Recall(l []api.Event, lots []string) ([]string, api.Errno) {
	return traced(l, Register.recall, lots)
}

// Causes returns the lots that all of some units use.
func Causes(l []api.Event, units []string) ([]string, api.Errno) {
	return traced(l, Register.causes, units)
}

// Ready returns OK for a unit that may be shipped.
func Ready(l []api.Event, unit string) api.Errno {
	h, _, err := historyOf(l)
	r := h.register()
	if err := common.First(err, common.When(!r.hasUnit(unit), api.ErrUnknown)); err != api.OK {
		return err
	}
	return r.checkReady(find(r.Units, unit))
}

// Missing returns the tests that a unit has not passed.
func Missing(l []api.Event, unit string) ([]string, api.Errno) {
	return traced(l, Register.missing, unit)
}

// Stock returns how many parts of a kind may be used.
func Stock(l []api.Event, kind string) (int, api.Errno) {
	return traced(l, Register.stock, kind)
}
