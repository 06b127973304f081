package works

import (
	"woofer/api"
	"woofer/common"
)

// step is an event that counts: its kind, and the register behind it.
type step struct {
	kind     string
	register Register
}

// history is the events of a works, and those of them that count.
type history struct {
	events []api.Event
	steps  []step
}

// register returns that after the events.
func (h history) register() Register {
	return registerBehind(h.steps)
}

// registerBehind returns the register behind the last of some steps.
func registerBehind(steps []step) Register {
	if len(steps) == 0 {
		return Register{}
	}
	return steps[len(steps)-1].register
}

// checkNext returns the error of an event by itself, or that with which it is not accepted, or OK.
func (h history) checkNext(all kinds, e api.Event) api.Errno {
	if err := all.checkEvent(e); err != api.OK {
		return err
	}
	if e.Number != len(h.events)+1 {
		return api.ErrOrder
	}
	if e.Kind == kindOfUndo {
		return h.checkUndo()
	}
	return h.checkChange(all[e.Kind], e)
}

// checkUndo returns the error with which an undo is not accepted, or OK.
func (h history) checkUndo() api.Errno {
	if len(h.steps) == 0 {
		return api.ErrEmpty
	}
	return common.When(h.steps[len(h.steps)-1].kind == kindOfShip, api.ErrRule)
}

// checkChange returns the error with which an event that changes the register is not accepted, or OK.
func (h history) checkChange(k kind, e api.Event) api.Errno {
	r := h.register()
	if e.Values[0] < r.Day {
		return api.ErrState
	}
	for i, name := range e.Names {
		if isKnown := k.conditions[i]; isKnown != nil && !isKnown(r, name) {
			return api.ErrUnknown
		}
	}
	return k.check(r, e)
}

// add adds an event that is accepted.
func (h *history) add(all kinds, e api.Event) {
	h.events = append(h.events, e)
	if e.Kind == kindOfUndo {
		h.steps = h.steps[:len(h.steps)-1]
		return
	}
	r := all[e.Kind].change(h.register(), e)
	r.Day = e.Values[0]
	h.steps = append(h.steps, step{kind: e.Kind, register: r})
}

// historyOf returns the history of some events and 0, or the number of the first event that has an error, and this error.
func historyOf(l []api.Event) (history, int, api.Errno) {
	if len(l) > api.MaxEvents {
		return history{}, 0, api.ErrMany
	}
	all := allKinds()
	var h history
	for i, e := range l {
		if err := h.checkNext(all, e); err != api.OK {
			return history{}, i + 1, err
		}
		h.add(all, e)
	}
	return h, 0, api.OK
}

// Replay returns the register after some events and 0, or the number of the first event that has an error, and this error.
func Replay(l []api.Event) (Register, int, api.Errno) {
	h, number, err := historyOf(l)
	return h.register().copied(), number, err
}

// Accepts returns the error with which an event is not accepted after others, or OK.
func Accepts(l []api.Event, e api.Event) api.Errno {
	h, _, err := historyOf(l)
	return common.First(
		err,
		CheckEvent(e),
		common.When(len(l) == api.MaxEvents, api.ErrMany),
		h.checkNext(allKinds(), e),
	)
}

// AsOf returns the register after those events that count and happened up to a day.
func AsOf(l []api.Event, day int) (Register, api.Errno) {
	h, _, err := historyOf(l)
	if err := common.First(err, checkValue(day)); err != api.OK {
		return Register{}, err
	}
	// The days of the events that count never descend, so that those up to a day come before all others.
	past := common.Filtered(h.steps, func(s step) bool { return s.register.Day <= day })
	return registerBehind(past).copied(), api.OK
}
