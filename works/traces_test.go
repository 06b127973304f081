package works_test

import (
	"slices"
	"strings"
	"testing"

	"woofer/api"
	"woofer/works"
)

// shipment returns events with four units of two lots of cones: u1 and u2 are a pair, and so are u3 and u4; u1, u3 and u4
// are shipped.
func shipment() []event {
	return example(
		"lot cone_2 cone 3 9", "lot free_1 coil 3 1",
		"build u2 box 3", "use u2 cone_2 3 2", "use u2 coil_1 3 1", "measure u2 sweep 3 80",
		"build u3 box 3", "use u3 coil_1 3 1", "use u3 cone_2 3 1", "use u3 cone_1 3 1", "measure u3 sweep 3 80",
		"build u4 box 3", "use u4 cone_1 3 2", "use u4 coil_1 3 1", "measure u4 sweep 3 80",
		"build u5 box 3",
		"pair u1 u2 3", "pair u4 u3 3", "ship u1 3", "ship u3 3", "ship u4 3",
	)
}

// P10.2: the lots of a unit in the order of its uses, the units of a lot in their order.
func TestLotsAndUnits(t *testing.T) {
	l := shipment()
	for name, lots := range map[string]string{"u1": "cone_1 coil_1", "u2": "cone_2 coil_1", "u3": "coil_1 cone_2 cone_1", "u4": "cone_1 coil_1", "u5": ""} {
		want(t, "MadeFrom of "+name, strings.Fields(lots))(works.MadeFrom(l, name))
	}
	for name, units := range map[string]string{"cone_1": "u1 u3 u4", "cone_2": "u2 u3", "coil_1": "u1 u2 u3 u4", "free_1": ""} {
		want(t, "WhereUsed of "+name, strings.Fields(units))(works.WhereUsed(l, name))
	}
	want(t, "a lot that is used twice", list("cone_1", "coil_1"))(works.MadeFrom(example("use u1 cone_1 3 1"), "u1"))
	want(t, "a lot that is used twice", list("u1"))(works.WhereUsed(example("use u1 cone_1 3 1"), "cone_1"))
	want(t, "a use that was undone", list("cone_1"))(works.MadeFrom(example("undo", "undo"), "u1"))
	want(t, "a use that was undone", []string(nil))(works.WhereUsed(example("undo", "undo"), "coil_1"))
	for _, name := range append(wrongNames, "x", "cone_1", "box", "cone", "sweep", "U1") {
		fails[[]string](t, "MadeFrom", api.ErrUnknown)(works.MadeFrom(l, name))
		fails[[]string](t, "Missing", api.ErrUnknown)(works.Missing(l, name))
		same(t, "Ready", works.Ready(l, name), api.ErrUnknown)
		fails[[]string](t, "MadeFrom", api.ErrUnknown)(works.MadeFrom(nil, name))
	}
	for _, name := range append(wrongNames, "x", "u1", "box", "cone", "sweep", "Cone_1") {
		fails[[]string](t, "WhereUsed", api.ErrUnknown)(works.WhereUsed(l, name))
		fails[[]string](t, "WhereUsed", api.ErrUnknown)(works.WhereUsed(nil, name))
	}
}

// P10.2: a recall concerns shipped units, and their shipped partners.
func TestRecall(t *testing.T) {
	l := shipment()
	for lots, units := range map[string]string{
		"": "", "cone_1": "u1 u3 u4", "cone_2": "u3 u4", "coil_1": "u1 u3 u4", "free_1": "",
		"cone_1 cone_2": "u1 u3 u4", "free_1 cone_2": "u3 u4", "cone_2 cone_2": "u3 u4",
	} {
		want(t, "Recall of "+lots, strings.Fields(units))(works.Recall(l, strings.Fields(lots)))
	}
	// The unit u2 uses cone_2, but is not shipped: no recall concerns its partner.
	second := joined(built("u2"), list("lot cone_2 cone 3 9", "use u2 cone_2 3 1", "pair u1 u2 3", "ship u1 3"))
	want(t, "Recall", []string(nil))(works.Recall(example(second...), list("cone_2")))
	want(t, "Recall", list("u1"))(works.Recall(example(second...), list("cone_1")))
	want(t, "Recall", list("u1", "u2"))(works.Recall(example(append(second, "ship u2 3")...), list("cone_2")))
	want(t, "Recall", []string(nil))(works.Recall(example(append(second, "ship u2 3")...), nil))
	want(t, "Recall of nothing", []string(nil))(works.Recall(nil, nil))
	many := slices.Repeat(list("cone_2"), api.MaxList)
	want(t, "Recall", list("u3", "u4"))(works.Recall(l, many))
	want(t, "Recall", list("u1", "u3", "u4"))(works.Recall(l, append(many[1:], "cone_1")))
	fails[[]string](t, "Recall", api.ErrMany)(works.Recall(l, append(many, "cone_2")))
	fails[[]string](t, "Recall", api.ErrMany)(works.Recall(l, append(many, "x")))
	fails[[]string](t, "Recall", api.ErrMany)(works.Recall(nil, make([]string, 999)))
	for _, name := range append(wrongNames, "x", "u1", "box", "cone", "sweep") {
		for _, lots := range [][]string{list(name), list("cone_1", name), list(name, "cone_1"), append(many[1:], name)} {
			fails[[]string](t, "Recall", api.ErrUnknown)(works.Recall(l, lots))
		}
	}
}

// P10.2: the causes of units are the lots that all of them use.
func TestCauses(t *testing.T) {
	l := shipment()
	for units, lots := range map[string]string{
		"u1": "cone_1 coil_1", "u2": "coil_1 cone_2", "u3": "cone_1 coil_1 cone_2", "u5": "", "u1 u2": "coil_1", "u2 u3": "coil_1 cone_2",
		"u4 u3 u1": "cone_1 coil_1", "u1 u2 u3 u4": "coil_1", "u1 u1": "cone_1 coil_1", "u1 u5": "", "u5 u1": "",
	} {
		want(t, "Causes of "+units, strings.Fields(lots))(works.Causes(l, strings.Fields(units)))
	}
	many := slices.Repeat(list("u2"), api.MaxList)
	want(t, "Causes", list("coil_1", "cone_2"))(works.Causes(l, many))
	want(t, "Causes", list("coil_1"))(works.Causes(l, append(many[1:], "u1")))
	fails[[]string](t, "Causes", api.ErrMany)(works.Causes(l, append(many, "u1")))
	fails[[]string](t, "Causes", api.ErrMany)(works.Causes(l, append(many, "x")))
	fails[[]string](t, "Causes", api.ErrEmpty)(works.Causes(l, nil))
	fails[[]string](t, "Causes", api.ErrEmpty)(works.Causes(nil, nil))
	for _, name := range append(wrongNames, "x", "cone_1", "box", "cone", "sweep") {
		for _, units := range [][]string{list(name), list("u1", name), list(name, "u1"), list("u5", name), append(many[1:], name)} {
			fails[[]string](t, "Causes", api.ErrUnknown)(works.Causes(l, units))
		}
	}
}

// P10.2: the tests that a unit does not pass, in the order of its document.
func TestMissing(t *testing.T) {
	more := list("test box b 3 1 2", "test box a 3 1 2", "test box sweep 3 1 2", "issue box 3")
	for _, x := range []struct {
		more    []string
		missing string
	}{
		{nil, ""},
		{list("undo"), "sweep"},
		{list("measure u1 sweep 3 79"), "sweep"},
		{list("measure u1 sweep 3 91"), "sweep"},
		{list("measure u1 sweep 3 91", "measure u1 sweep 3 90"), ""},
		{more, ""},
		{append(more, "measure u1 sweep 3 1"), "sweep"},
		{append(more, "update u1 3"), "sweep b a"},
		{append(more, "update u1 3", "measure u1 a 3 1"), "sweep b"},
		{append(more, "update u1 3", "measure u1 a 3 1", "measure u1 sweep 3 3", "measure u1 b 3 2"), "sweep"},
		{append(more, "update u1 3", "measure u1 a 3 1", "measure u1 sweep 3 2", "measure u1 b 3 0"), "b"},
		{append(more, "update u1 3", "measure u1 a 3 1", "measure u1 sweep 3 2", "measure u1 b 3 2"), ""},
		{list("ship u1 3", "issue box 3"), ""},
	} {
		want(t, "Missing behind "+strings.Join(x.more, ", "), strings.Fields(x.missing))(works.Missing(example(x.more...), "u1"))
	}
	want(t, "Missing without tests", []string(nil))(works.Missing(entries("product p 0", "need p k 0 1", "issue p 0", "build u p 0"), "u"))
}

// P10.2: the parts of a kind that are left in lots that are not held.
func TestStock(t *testing.T) {
	l := example("lot cone_2 cone 3 100", "lot cone cone_1 3 7")
	for kind, left := range map[string]int{"cone": 108, "coil": 4, "cone_1": 7, "cone_2": 0, "x": 0, "Cone": 0, "u1": 0} {
		want(t, "Stock of "+kind, left)(works.Stock(l, kind))
	}
	want(t, "Stock", 100)(works.Stock(example("lot cone_2 cone 3 100", "hold cone_1 3"), "cone"))
	want(t, "Stock", 0)(works.Stock(example("hold cone_1 3"), "cone"))
	want(t, "Stock", 8)(works.Stock(example("hold cone_1 3", "free cone_1 3"), "cone"))
	want(t, "Stock", 0)(works.Stock(example("use u1 cone_1 3 8"), "cone"))
	want(t, "Stock of nothing", 0)(works.Stock(nil, "cone"))
	full := numbered(works.MaxLots, func(i string) string { return "lot l" + i + " k 1 10000" })
	want(t, "Stock of all", works.MaxLots*works.MaxCount)(works.Stock(entries(full...), "k"))
	for _, name := range wrongNames {
		fails[int](t, "Stock", api.ErrName)(works.Stock(l, name))
		fails[int](t, "Stock", api.ErrName)(works.Stock(nil, name))
	}
}
