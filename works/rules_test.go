package works_test

import (
	"slices"
	"strings"
	"testing"

	"woofer/api"
	"woofer/works"
)

// rule is an event, behind others, with the error with which it is not accepted.
type rule struct {
	before []string
	line   string
	e      api.Errno
}

// follow requires the errors of rules behind the events of the examples.
func follow(t *testing.T, rules ...rule) {
	t.Helper()
	for _, x := range rules {
		accepts(t, append(exampleLines(), x.before...), x.line, x.e)
	}
}

// P10.1: an event whose Number is not the next one, before all other errors with which it is not accepted.
func TestNumbers(t *testing.T) {
	for _, line := range []string{"product other 3", "product other 0", "undo", "hold nothing 0", "lot cone_1 cone 0 0"} {
		for _, number := range []int{1, 11, 13, api.MaxEvents} {
			same(t, "Accepts", works.Accepts(example(), entry(number, line)), api.ErrOrder)
			_, at, e := works.Replay(append(example(), entry(number, line)))
			same(t, "Replay", []any{at, e}, []any{12, api.ErrOrder})
		}
	}
	same(t, "the first one", works.Accepts(nil, entry(1, "product other 0")), api.OK)
	same(t, "a second one", works.Accepts(nil, entry(2, "product other 0")), api.ErrOrder)
	same(t, "an undo", works.Accepts(nil, entry(2, "undo")), api.ErrOrder)
}

// P10.1: the day of an event is not before that of the last event that counts.
func TestDays(t *testing.T) {
	for _, s := range shapes {
		if s.kind != "undo" {
			e := shaped(12, s)
			e.Values[0] = 2
			same(t, "Accepts of "+s.kind, works.Accepts(example(), e), api.ErrState)
		}
	}
	follow(t,
		rule{nil, "product other 3", api.OK},
		rule{nil, "product other 999999999", api.OK},
		rule{list("product other 999999999"), "product more 999999998", api.ErrState},
		rule{list("product other 9"), "lot cone_1 cone 8 0", api.ErrState},
		rule{list("product other 9", "undo"), "product other 3", api.OK},
		rule{list("product other 9", "undo"), "product other 2", api.ErrState},
		rule{list("undo", "undo", "undo", "undo"), "product other 2", api.OK},
		rule{list("undo", "undo", "undo", "undo"), "product other 1", api.ErrState},
	)
	accepts(t, nil, "product box 0", api.OK)
	accepts(t, list("product box 5", "undo"), "product box 0", api.OK)
}

// P10.1: names that the register does not know; each name is one of its own sort.
func TestUnknownNames(t *testing.T) {
	for _, name := range []string{"x", "cone_1", "u1", "cone", "sweep", "Box", "boxx"} {
		for _, line := range []string{"need N coil 3 10001", "test N sweep 3 2 1", "issue N 3", "build u1 N 3"} {
			follow(t, rule{nil, strings.Replace(line, "N", name, 1), api.ErrUnknown})
		}
	}
	for _, name := range []string{"x", "cone_1", "box", "cone", "sweep", "U1", "u"} {
		for _, line := range []string{"use N coil_1 3 0", "use N x 3 0", "measure N x 3 1", "update N 3", "pair N u1 3", "pair u1 N 3", "pair N N 3", "ship N 3", "complain N 3"} {
			follow(t, rule{nil, strings.ReplaceAll(line, "N", name), api.ErrUnknown})
		}
	}
	for _, name := range []string{"x", "u1", "box", "cone", "sweep", "Cone_1", "cone_"} {
		for _, line := range []string{"use u1 N 3 0", "hold N 3", "free N 3"} {
			follow(t, rule{nil, strings.Replace(line, "N", name, 1), api.ErrUnknown})
		}
	}
	follow(t,
		rule{list("undo", "undo", "undo", "undo"), "ship u1 3", api.ErrUnknown},
		rule{list("product u2 3"), "build u2 u2 3", api.ErrVersion},
		rule{list("lot u1 box 3 1", "hold u1 3"), "free u1 3", api.OK},
	)
}

// P10.1: the rules of lots and products.
func TestLotsAndProducts(t *testing.T) {
	follow(t,
		rule{nil, "lot new cone 3 1", api.OK},
		rule{nil, "lot new other 3 10000", api.OK},
		rule{nil, "lot box cone 3 1", api.OK},
		rule{nil, "lot u1 cone 3 1", api.OK},
		rule{nil, "lot cone cone 3 1", api.OK},
		rule{nil, "lot new cone 3 0", api.ErrRange},
		rule{nil, "lot new cone 3 10001", api.ErrRange},
		rule{nil, "lot new cone 3 999999999", api.ErrRange},
		rule{nil, "lot cone_1 cone 3 1", api.ErrTwice},
		rule{nil, "lot coil_1 cone 3 0", api.ErrTwice},
		rule{list("hold cone_1 3"), "lot cone_1 other 3 1", api.ErrTwice},
		rule{list("lot new cone 3 1", "undo"), "lot new other 3 1", api.OK},
		rule{nil, "product new 3", api.OK},
		rule{nil, "product cone_1 3", api.OK},
		rule{nil, "product u1 3", api.OK},
		rule{nil, "product box 3", api.ErrTwice},
		rule{list("product new 3"), "product new 4", api.ErrTwice},
		rule{nil, "hold cone_1 3", api.OK},
		rule{nil, "free cone_1 3", api.ErrState},
		rule{list("hold cone_1 3"), "hold cone_1 3", api.ErrHold},
		rule{list("hold cone_1 3"), "free cone_1 3", api.OK},
		rule{list("hold cone_1 3"), "hold coil_1 3", api.OK},
		rule{list("hold cone_1 3"), "free coil_1 3", api.ErrState},
		rule{list("hold cone_1 3", "free cone_1 3"), "free cone_1 3", api.ErrState},
		rule{list("hold cone_1 3", "free cone_1 3"), "hold cone_1 3", api.OK},
	)
}

// P10.1: the rules of drafts and versions.
func TestDraftsAndVersions(t *testing.T) {
	follow(t,
		rule{nil, "need box cone 3 10000", api.OK},
		rule{nil, "need box cone 3 10001", api.ErrRange},
		rule{nil, "need box other 3 10001", api.ErrRange},
		rule{nil, "need box cone 3 0", api.OK},
		rule{nil, "need box other 3 0", api.OK},
		rule{nil, "test box sweep 3 0 0", api.OK},
		rule{nil, "test box sweep 3 5 4", api.ErrOrder},
		rule{nil, "test box other 3 1 0", api.ErrOrder},
		rule{nil, "test box other 3 0 999999999", api.OK},
		rule{nil, "issue box 3", api.OK},
		rule{list("issue box 3", "issue box 3"), "issue box 3", api.OK},
		rule{list("product new 3"), "issue new 3", api.ErrEmpty},
		rule{list("product new 3", "test new a 3 1 2"), "issue new 3", api.ErrEmpty},
		rule{list("product new 3", "need new a 3 1"), "issue new 3", api.OK},
		rule{list("product new 3", "need new a 3 1", "need new a 3 0"), "issue new 3", api.ErrEmpty},
		rule{list("need box cone 3 0"), "issue box 3", api.OK},
		rule{list("need box cone 3 0", "need box coil 3 0"), "issue box 3", api.ErrEmpty},
		rule{nil, "build u2 box 3", api.OK},
		rule{nil, "build cone_1 box 3", api.OK},
		rule{nil, "build u1 box 3", api.ErrTwice},
		rule{list("product new 3"), "build u2 new 3", api.ErrVersion},
		rule{list("product new 3"), "build u1 new 3", api.ErrTwice},
		rule{list("product new 3", "need new a 3 1"), "build u2 new 3", api.ErrVersion},
		rule{list("product new 3", "need new a 3 1", "issue new 3"), "build u2 new 3", api.OK},
		rule{list("product new 3", "need new a 3 1", "issue new 3", "undo"), "build u2 new 3", api.ErrVersion},
		rule{nil, "update u1 3", api.ErrVersion},
		rule{list("issue box 3"), "update u1 3", api.OK},
		rule{list("issue box 3", "update u1 3"), "update u1 3", api.ErrVersion},
		rule{list("issue box 3", "build u2 box 3"), "update u2 3", api.ErrVersion},
		rule{list("ship u1 3"), "update u1 3", api.ErrOver},
		rule{list("ship u1 3", "issue box 3"), "update u1 3", api.ErrOver},
	)
}

// P10.1: the rules of the uses of a unit.
func TestUses(t *testing.T) {
	const other = "lot other magnet 3 5"
	follow(t,
		rule{nil, "use u1 cone_1 3 1", api.OK},
		rule{nil, "use u1 cone_1 3 8", api.OK},
		rule{nil, "use u1 cone_1 3 9", api.ErrLarge},
		rule{nil, "use u1 cone_1 3 999999999", api.ErrLarge},
		rule{nil, "use u1 cone_1 3 0", api.ErrRange},
		rule{list("use u1 cone_1 3 8"), "use u1 cone_1 3 1", api.ErrLarge},
		rule{list("use u1 cone_1 3 8", "undo"), "use u1 cone_1 3 8", api.OK},
		rule{list("build u2 box 3", "use u2 cone_1 3 8"), "use u1 cone_1 3 1", api.ErrLarge},
		rule{list("hold cone_1 3"), "use u1 cone_1 3 1", api.ErrHold},
		rule{list("hold cone_1 3"), "use u1 cone_1 3 9", api.ErrHold},
		rule{list("hold cone_1 3"), "use u1 cone_1 3 0", api.ErrRange},
		rule{list("hold cone_1 3"), "use u1 coil_1 3 1", api.OK},
		rule{list("hold cone_1 3", "free cone_1 3"), "use u1 cone_1 3 1", api.OK},
		rule{list(other), "use u1 other 3 1", api.ErrNone},
		rule{list(other), "use u1 other 3 6", api.ErrNone},
		rule{list(other, "hold other 3"), "use u1 other 3 1", api.ErrHold},
		// The document of a unit is that of its version, not the draft.
		rule{list(other, "need box magnet 3 1"), "use u1 other 3 1", api.ErrNone},
		rule{list(other, "need box magnet 3 1", "issue box 3"), "use u1 other 3 1", api.ErrNone},
		rule{list(other, "need box magnet 3 1", "issue box 3", "update u1 3"), "use u1 other 3 1", api.OK},
		rule{list("need box cone 3 0"), "use u1 cone_1 3 1", api.OK},
		rule{list("need box cone 3 0", "issue box 3"), "use u1 cone_1 3 1", api.OK},
		rule{list("need box cone 3 0", "issue box 3", "update u1 3"), "use u1 cone_1 3 1", api.ErrNone},
		rule{list("ship u1 3"), "use u1 cone_1 3 1", api.ErrOver},
		rule{list("ship u1 3"), "use u1 cone_1 3 0", api.ErrOver},
		rule{list("ship u1 3", "hold cone_1 3"), "use u1 cone_1 3 1", api.ErrOver},
	)
}

// P10.1: the rules of results, and of pairs.
func TestResultsAndPairs(t *testing.T) {
	second := built("u2")
	follow(t,
		rule{nil, "measure u1 sweep 3 0", api.OK},
		rule{nil, "measure u1 sweep 3 999999999", api.OK},
		rule{nil, "measure u1 other 3 1", api.ErrNone},
		rule{nil, "measure u1 cone 3 1", api.ErrNone},
		rule{list("test box other 3 1 2"), "measure u1 other 3 1", api.ErrNone},
		rule{list("test box other 3 1 2", "issue box 3"), "measure u1 other 3 1", api.ErrNone},
		rule{list("test box other 3 1 2", "issue box 3", "update u1 3"), "measure u1 other 3 1", api.OK},
		rule{list("ship u1 3"), "measure u1 sweep 3 1", api.ErrOver},
		rule{list("ship u1 3"), "measure u1 other 3 1", api.ErrOver},
		rule{nil, "pair u1 u1 3", api.ErrTwice},
		rule{list("ship u1 3"), "pair u1 u1 3", api.ErrTwice},
		rule{second, "pair u1 u2 3", api.OK},
		rule{second, "pair u2 u1 3", api.OK},
		rule{list("build u2 box 3"), "pair u1 u2 3", api.OK},
		rule{append(second, "ship u1 3"), "pair u1 u2 3", api.ErrOver},
		rule{append(second, "ship u2 3"), "pair u1 u2 3", api.ErrOver},
		rule{append(second, "pair u1 u2 3"), "pair u1 u2 3", api.ErrMatch},
		rule{append(second, "pair u1 u2 3"), "pair u2 u1 3", api.ErrMatch},
		rule{append(second, "pair u1 u2 3", "undo"), "pair u2 u1 3", api.OK},
		rule{append(second, "build u3 box 3", "pair u1 u2 3"), "pair u3 u1 3", api.ErrMatch},
		rule{append(second, "build u3 box 3", "pair u1 u2 3"), "pair u2 u3 3", api.ErrMatch},
		rule{append(second, "build u3 box 3", "pair u1 u2 3", "ship u1 3"), "pair u1 u3 3", api.ErrOver},
		rule{list("issue box 3", "build u2 box 3"), "pair u1 u2 3", api.ErrConflict},
		rule{list("issue box 3", "build u2 box 3"), "pair u2 u1 3", api.ErrConflict},
		rule{list("issue box 3", "build u2 box 3", "update u1 3"), "pair u1 u2 3", api.OK},
		rule{list("ship u1 3", "issue box 3", "build u2 box 3"), "pair u1 u2 3", api.ErrConflict},
		rule{list("product new 3", "need new a 3 1", "issue new 3", "build u2 new 3"), "pair u1 u2 3", api.ErrConflict},
		rule{append(second, "pair u1 u2 3", "issue box 3", "update u1 3"), "pair u1 u2 3", api.ErrConflict},
	)
}

// shipments are events behind those of the examples with the error of the unit u1.
func shipments() []rule {
	const ready = "ship u1 3"
	three := list("need box cone 3 3", "issue box 3", "update u1 3", "measure u1 sweep 3 80")
	return []rule{
		{nil, ready, api.OK},
		{list("ship u1 3"), ready, api.ErrOver},
		{list("ship u1 3", "issue box 3", "hold coil_1 3"), ready, api.ErrOver},
		{list("issue box 3"), ready, api.ErrVersion},
		{list("issue box 3", "undo"), ready, api.OK},
		{list("issue box 3", "measure u1 sweep 3 91", "hold coil_1 3"), ready, api.ErrVersion},
		{list("product new 3", "need new a 3 1", "issue new 3"), ready, api.OK},
		{list("issue box 3", "update u1 3"), ready, api.ErrFail},
		{list("issue box 3", "update u1 3", "measure u1 sweep 3 91"), ready, api.ErrFail},
		{list("issue box 3", "update u1 3", "measure u1 sweep 3 90"), ready, api.OK},
		// A unit is complete by the document of its version.
		{three, ready, api.ErrState},
		{append(three, "measure u1 sweep 3 79", "hold cone_1 3"), ready, api.ErrState},
		{append(three, "use u1 cone_1 3 1"), ready, api.OK},
		{append(three, "use u1 cone_1 3 5"), ready, api.OK},
		{append(three, "lot cone_2 cone 3 9", "use u1 cone_2 3 1"), ready, api.OK},
		{append(three, "lot cone_2 cone 3 9", "use u1 cone_2 3 1", "hold cone_2 3"), ready, api.ErrHold},
		{append(three, "use u1 coil_1 3 1"), ready, api.ErrState},
		{list("need box cone 3 3"), ready, api.OK},
		{list("need box magnet 3 1"), ready, api.OK},
		{list("need box magnet 3 1", "issue box 3", "update u1 3", "measure u1 sweep 3 85"), ready, api.ErrState},
		{list("need box cone 3 0", "issue box 3", "update u1 3", "measure u1 sweep 3 85"), ready, api.OK},
		{list("need box cone 3 0", "issue box 3", "update u1 3", "measure u1 sweep 3 85", "hold cone_1 3"), ready, api.ErrHold},
		// Tests are passed by the limits of the document, at the version, by the last result.
		{list("measure u1 sweep 3 80"), ready, api.OK},
		{list("measure u1 sweep 3 79"), ready, api.ErrFail},
		{list("measure u1 sweep 3 90"), ready, api.OK},
		{list("measure u1 sweep 3 91"), ready, api.ErrFail},
		{list("measure u1 sweep 3 91", "undo"), ready, api.OK},
		{list("measure u1 sweep 3 91", "measure u1 sweep 3 90"), ready, api.OK},
		{list("measure u1 sweep 3 91", "hold cone_1 3"), ready, api.ErrFail},
		{list("test box sweep 3 1 2"), ready, api.OK},
		{list("test box other 3 1 2"), ready, api.OK},
		{list("test box sweep 3 1 2", "issue box 3", "update u1 3", "measure u1 sweep 3 85"), ready, api.ErrFail},
		{list("test box sweep 3 1 2", "issue box 3", "update u1 3", "measure u1 sweep 3 2"), ready, api.OK},
		{list("test box other 3 1 2", "issue box 3", "update u1 3", "measure u1 sweep 3 85"), ready, api.ErrFail},
		{list("test box other 3 1 2", "issue box 3", "update u1 3", "measure u1 other 3 2"), ready, api.ErrFail},
		{list("test box other 3 1 2", "issue box 3", "update u1 3", "measure u1 other 3 2", "measure u1 sweep 3 85"), ready, api.OK},
		{list("test box other 3 1 2", "issue box 3", "update u1 3", "measure u1 sweep 3 85", "measure u1 other 3 2", "measure u1 sweep 3 1"), ready, api.ErrFail},
		{list("hold coil_1 3"), ready, api.ErrHold},
		{list("hold cone_1 3"), ready, api.ErrHold},
		{list("hold cone_1 3", "free cone_1 3"), ready, api.OK},
		{list("lot cone_2 cone 3 1", "hold cone_2 3"), ready, api.OK},
		{list("build u2 box 3"), ready, api.OK},
		{list("build u2 box 3", "pair u1 u2 3"), ready, api.OK},
	}
}

// P10.1: the rules of shipments and complaints; P10.2: Ready.
func TestShipments(t *testing.T) {
	for _, x := range shipments() {
		follow(t, x)
		same(t, "Ready behind "+strings.Join(x.before, ", "), works.Ready(example(x.before...), "u1"), x.e)
	}
	follow(t,
		rule{list("build u2 box 3"), "ship u2 3", api.ErrState},
		rule{nil, "complain u1 3", api.ErrState},
		rule{list("ship u1 3"), "complain u1 3", api.OK},
		rule{list("ship u1 3", "complain u1 3", "complain u1 3"), "complain u1 9", api.OK},
		rule{list("build u2 box 3", "ship u1 3"), "complain u2 3", api.ErrState},
	)
	for i, e := range map[int]api.Errno{8: api.ErrState, 9: api.ErrState, 10: api.ErrFail} {
		accepts(t, slices.Delete(exampleLines(), i, i+1), "ship u1 3", e)
	}
}

// P10.1: a product without tests needs no results, and one part is enough of a lot of several kinds.
func TestShipmentWithoutTests(t *testing.T) {
	lines := list("lot a k 0 2", "product p 0", "need p k 0 1", "issue p 0", "build u p 0", "build v p 0")
	accepts(t, lines, "ship u 0", api.ErrState)
	lines = append(lines, "use u a 0 1", "use v a 0 1")
	accepts(t, lines, "ship u 0", api.OK)
	accepts(t, append(lines, "ship u 0"), "ship v 0", api.OK)
}

// P10.1: what an undo undoes.
func TestUndo(t *testing.T) {
	accepts(t, nil, "undo", api.ErrEmpty)
	accepts(t, list("product box 1"), "undo", api.OK)
	accepts(t, list("product box 1", "undo"), "undo", api.ErrEmpty)
	accepts(t, list("product box 1", "undo", "product box 1"), "undo", api.OK)
	follow(t,
		rule{list("ship u1 3"), "undo", api.ErrRule},
		rule{list("ship u1 3", "complain u1 3"), "undo", api.OK},
		rule{list("ship u1 3", "complain u1 3", "undo"), "undo", api.ErrRule},
		rule{list("ship u1 3", "product other 3", "hold coil_1 3", "undo", "undo"), "undo", api.ErrRule},
		rule{list("undo"), "undo", api.OK},
		rule{list("undo"), "measure u1 sweep 3 1", api.OK},
		rule{list("undo"), "ship u1 3", api.ErrFail},
		rule{list("undo", "undo"), "ship u1 3", api.ErrState},
	)
	lines := exampleLines()
	for n := len(lines); n > 0; n-- {
		wanted := replayed(t, entries(exampleLines()[:n]...))
		same(t, "Replay", replayed(t, entries(lines...)), wanted)
		lines = append(lines, "undo")
	}
	same(t, "Replay", replayed(t, entries(lines...)), register{})
	accepts(t, lines, "undo", api.ErrEmpty)
}
