package works

import (
	"woofer/api"
	"woofer/common"
	"woofer/signal"
)

// The kinds that a history treats unlike the others.
const (
	kindOfShip = "ship"
	kindOfUndo = "undo"
)

// numbers are those of the Names and of the Values of an event.
type numbers [2]int

// condition is what a name of an event has to be in the register before it.
type condition func(r Register, name string) bool

// conditions are those of the names of an event; without one a name may be any.
type conditions [2]condition

// kind is what all events of a kind have in common. An event of it is checked only if it is right by itself and meets the
// conditions of its names; it changes a register only if it is accepted.
type kind struct {
	numbers    numbers
	conditions conditions
	check      func(r Register, e api.Event) api.Errno
	change     func(r Register, e api.Event) Register
}

// kinds are those of events by their names.
type kinds map[string]kind

// allKinds returns the kinds of events.
func allKinds() kinds {
	product, unit, lot := Register.hasProduct, Register.hasUnit, Register.hasLot
	return kinds{
		"lot":      {numbers{2, 2}, conditions{}, checkLot, addLot},
		"product":  {numbers{1, 1}, conditions{}, checkProduct, addProduct},
		"need":     {numbers{2, 2}, conditions{product}, checkNeed, setNeed},
		"test":     {numbers{2, 3}, conditions{product}, checkTest, setTest},
		"issue":    {numbers{1, 1}, conditions{product}, checkIssue, issue},
		"build":    {numbers{2, 1}, conditions{nil, product}, checkBuild, build},
		"use":      {numbers{2, 2}, conditions{unit, lot}, checkUse, use},
		"measure":  {numbers{2, 2}, conditions{unit}, checkMeasure, measure},
		"update":   {numbers{1, 1}, conditions{unit}, checkUpdate, update},
		"pair":     {numbers{2, 1}, conditions{unit, unit}, checkPair, pair},
		"hold":     {numbers{1, 1}, conditions{lot}, checkHold, hold},
		"free":     {numbers{1, 1}, conditions{lot}, checkFree, free},
		kindOfShip: {numbers{1, 1}, conditions{unit}, checkShip, ship},
		"complain": {numbers{1, 1}, conditions{unit}, checkComplain, complain},
		kindOfUndo: {numbers{0, 0}, conditions{}, nil, nil},
	}
}

// checkEvent returns the first error of an event by itself, or OK.
func (all kinds) checkEvent(e api.Event) api.Errno {
	k, isKind := all[e.Kind]
	return common.First(
		common.CheckRange(e.Number, 1, api.MaxEvents),
		common.When(!isKind, api.ErrKind),
		common.When(numbers{len(e.Names), len(e.Values)} != k.numbers, api.ErrShape),
		common.First(common.Mapped(e.Names, checkName)...),
		common.First(common.Mapped(e.Values, checkValue)...),
		common.When(e.Text != "", api.ErrForm),
	)
}

// checkName returns the error of a name, or OK.
func checkName(name string) api.Errno {
	return common.When(!signal.IsName(name), api.ErrName)
}

// checkValue returns the error of a value of an event, or OK.
func checkValue(n int) api.Errno {
	return common.CheckRange(n, 0, api.MaxNumber)
}

// CheckEvent returns the first error of an event by itself, or OK.
func CheckEvent(e api.Event) api.Errno {
	return allKinds().checkEvent(e)
}
