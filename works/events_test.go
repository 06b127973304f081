package works_test

import (
	"math"
	"strings"
	"testing"

	"woofer/api"
	"woofer/works"
)

// P10.1: CheckEvent of events that are right by themselves, at the limits, too.
func TestCheckEvent(t *testing.T) {
	for _, s := range shapes {
		for _, number := range []int{1, 2, api.MaxEvents} {
			for _, name := range []string{"a", "Z", "a_9", strings.Repeat("z", api.MaxName)} {
				for _, value := range []int{0, 1, api.MaxNumber} {
					e := shaped(number, s)
					for i := range e.Names {
						e.Names[i] = name
					}
					for i := range e.Values {
						e.Values[i] = value
					}
					same(t, "CheckEvent of "+s.kind, works.CheckEvent(e), api.OK)
				}
			}
		}
	}
}

// P10.1: the errors of an event, in their order.
func TestCheckWrongEvent(t *testing.T) {
	for _, x := range wrongEvents(5) {
		same(t, "CheckEvent of "+short(x.e.Kind), works.CheckEvent(x.e), x.err)
		for _, number := range []int{math.MinInt, -1, 0, api.MaxEvents + 1, math.MaxInt} {
			x.e.Number = number
			same(t, "CheckEvent of a wrong Number", works.CheckEvent(x.e), api.ErrRange)
		}
	}
	for _, s := range shapes {
		for _, number := range []int{math.MinInt, -1, 0, api.MaxEvents + 1, math.MaxInt} {
			same(t, "CheckEvent of a wrong Number", works.CheckEvent(shaped(number, s)), api.ErrRange)
		}
	}
}

// P10.1: Accepts and Replay return the errors of CheckEvent, before the one with which an event is not accepted.
func TestWrongEventIsNotAccepted(t *testing.T) {
	for _, before := range [][]event{nil, example()} {
		for _, x := range wrongEvents(len(before) + 2) {
			same(t, "Accepts", works.Accepts(before, x.e), x.err)
			r, number, e := works.Replay(append(before[:len(before):len(before)], x.e, event{}))
			same(t, "Replay", []any{r, number, e}, []any{register{}, len(before) + 1, x.err})
		}
	}
}
