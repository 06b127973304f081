package works_test

import (
	"slices"
	"strings"
	"testing"

	"woofer/api"
	"woofer/works"
)

// examplesRegister returns the register behind the events of the examples.
func examplesRegister() register {
	d := func() document {
		return document{Needs: list(need{"cone", 2}, need{"coil", 1}), Tests: list(test{"sweep", 80, 90})}
	}
	return register{
		Day:      3,
		Lots:     list(lot{"cone_1", "cone", 10, 8, false}, lot{"coil_1", "coil", 5, 4, false}),
		Products: list(product{"box", d(), list(d())}),
		Units: list(unit{
			Name: "u1", Product: "box", Version: 1,
			Uses: list(use{"cone_1", 2}, use{"coil_1", 1}), Results: list(result{"sweep", 1, 85}),
		}),
	}
}

// registerOf requires the register behind the events of the examples and some more.
func registerOf(t *testing.T, wanted register, more ...string) {
	t.Helper()
	same(t, "Replay behind "+strings.Join(more, ", "), replayed(t, example(more...)), wanted)
}

// P10.1: the registers behind no events, and behind those of the examples.
func TestReplay(t *testing.T) {
	same(t, "Replay of nothing", replayed(t, nil), register{})
	registerOf(t, examplesRegister())
	for n, change := range map[int]func(r *register){
		10: func(r *register) { r.Units[0].Results = nil },
		9: func(r *register) {
			r.Units[0].Results, r.Units[0].Uses, r.Lots[1].Left = nil, list(use{"cone_1", 2}), 5
		},
		8: func(r *register) {
			r.Units[0].Results, r.Units[0].Uses, r.Lots[1].Left, r.Lots[0].Left = nil, nil, 5, 10
		},
		1: func(r *register) { *r = register{Day: 1, Lots: list(lot{"cone_1", "cone", 10, 10, false})} },
	} {
		r := examplesRegister()
		change(&r)
		same(t, "Replay", replayed(t, example()[:n]), r)
	}
}

// P10.1: what each kind of an event does to the lots.
func TestChangesOfLots(t *testing.T) {
	r := examplesRegister()
	r.Day = 999999999
	r.Lots = append(r.Lots, lot{"a", "cone", 10000, 10000, false})
	registerOf(t, r, "lot a cone 999999999 10000")
	r = examplesRegister()
	r.Lots[1].Held = true
	registerOf(t, r, "hold coil_1 3")
	r.Lots[0].Held = true
	registerOf(t, r, "hold coil_1 3", "hold cone_1 3")
	r.Lots[1].Held = false
	r.Day = 4
	registerOf(t, r, "hold coil_1 3", "hold cone_1 3", "free coil_1 4")
}

// P10.1: what events do to drafts and documents.
func TestChangesOfProducts(t *testing.T) {
	r := examplesRegister()
	r.Day = 7
	r.Products = append(r.Products, product{Name: "a"})
	registerOf(t, r, "product a 7")
	r = examplesRegister()
	draft := &r.Products[0].Draft
	draft.Needs[0].Count = 9
	registerOf(t, r, "need box cone 3 9")
	draft.Needs = append(draft.Needs, need{"a", 1})
	registerOf(t, r, "need box cone 3 9", "need box a 3 1")
	draft.Needs = list(need{"coil", 1}, need{"a", 1})
	registerOf(t, r, "need box cone 3 9", "need box a 3 1", "need box cone 3 0")
	// A need that was 0 has lost its place.
	draft.Needs = append(draft.Needs, need{"cone", 10000})
	registerOf(t, r, "need box cone 3 9", "need box a 3 1", "need box cone 3 0", "need box cone 3 10000")
	draft.Needs = nil
	registerOf(t, r, "need box cone 3 0", "need box coil 3 0")
	registerOf(t, examplesRegister(), "need box a 3 0")
	draft.Needs = examplesRegister().Products[0].Draft.Needs
	draft.Tests = list(test{"sweep", 0, 999999999})
	registerOf(t, r, "test box sweep 3 0 999999999")
	draft.Tests = append(draft.Tests, test{"a", 1, 1})
	registerOf(t, r, "test box sweep 3 0 999999999", "test box a 3 1 1")
	draft.Tests[0] = test{"sweep", 5, 6}
	registerOf(t, r, "test box sweep 3 0 999999999", "test box a 3 1 1", "test box sweep 3 5 6")
}

// P10.1: versions: each has the document that the draft was, and no later event changes it.
func TestVersions(t *testing.T) {
	r := examplesRegister()
	first := r.Products[0].Draft
	r.Products[0].Documents = list(first, first)
	registerOf(t, r, "issue box 3")
	second := document{Needs: list(need{"coil", 2}), Tests: list(test{"sweep", 80, 90}, test{"a", 1, 2})}
	third := document{Needs: list(need{"coil", 2}, need{"cone", 1}), Tests: list(test{"sweep", 3, 4}, test{"a", 1, 2})}
	changes := list("need box cone 3 0", "need box coil 3 2", "test box a 3 1 2", "issue box 3", "need box cone 3 1", "test box sweep 3 3 4", "issue box 3", "need box coil 3 0", "need box cone 3 0")
	r.Products[0] = product{"box", document{Tests: third.Tests}, list(first, second, third)}
	registerOf(t, r, changes...)
	r.Products = append(r.Products, product{Name: "other", Draft: document{Needs: list(need{"cone", 1})}, Documents: list(document{Needs: list(need{"cone", 1})})})
	changes = append(changes, "product other 3", "need other cone 3 1", "issue other 3")
	registerOf(t, r, changes...)
	r.Units = append(r.Units, unit{Name: "u2", Product: "box", Version: 3}, unit{Name: "u3", Product: "other", Version: 1})
	changes = append(changes, "build u2 box 3", "build u3 other 3")
	registerOf(t, r, changes...)
	r.Units[0].Version = 3
	registerOf(t, r, append(changes, "update u1 3")...)
}

// P10.1: what events do to units.
func TestChangesOfUnits(t *testing.T) {
	r := examplesRegister()
	u := &r.Units[0]
	u.Uses[0].Count, r.Lots[0].Left = 10, 0
	registerOf(t, r, "use u1 cone_1 3 1", "use u1 cone_1 3 7")
	r.Lots = append(r.Lots, lot{"cone_2", "cone", 3, 2, false})
	u.Uses = append(u.Uses, use{"cone_2", 1})
	registerOf(t, r, "use u1 cone_1 3 1", "lot cone_2 cone 3 3", "use u1 cone_2 3 1", "use u1 cone_1 3 7")
	r = examplesRegister()
	u = &r.Units[0]
	u.Results = append(u.Results, result{"sweep", 1, 0}, result{"sweep", 1, 85})
	registerOf(t, r, "measure u1 sweep 3 0", "measure u1 sweep 3 85")
	d := document{Needs: r.Products[0].Draft.Needs, Tests: list(test{"sweep", 80, 90}, test{"a", 1, 2})}
	r.Products[0].Draft = d
	r.Products[0].Documents = append(r.Products[0].Documents, d)
	u.Version = 2
	u.Results = append(u.Results, result{"sweep", 2, 7}, result{"a", 2, 999999999})
	registerOf(t, r, "measure u1 sweep 3 0", "measure u1 sweep 3 85", "test box a 3 1 2", "issue box 3", "update u1 3", "measure u1 sweep 3 7", "measure u1 a 3 999999999")
	r = examplesRegister()
	r.Units = append(r.Units, unit{Name: "u2", Product: "box", Version: 1}, unit{Name: "u3", Product: "box", Version: 1})
	registerOf(t, r, "build u2 box 3", "build u3 box 3")
	r.Units[0].Partner, r.Units[2].Partner = "u3", "u1"
	registerOf(t, r, "build u2 box 3", "build u3 box 3", "pair u1 u3 3")
	registerOf(t, r, "build u2 box 3", "build u3 box 3", "pair u3 u1 3")
	r.Units[0].Shipped = true
	registerOf(t, r, "build u2 box 3", "build u3 box 3", "pair u1 u3 3", "ship u1 3")
	r.Units[0].Complaints, r.Day = 2, 5
	registerOf(t, r, "build u2 box 3", "build u3 box 3", "pair u1 u3 3", "ship u1 3", "complain u1 4", "complain u1 5")
}

// P10.1: partners stay partners behind an update, and behind an issue.
func TestPartnersBehindAnUpdate(t *testing.T) {
	r := replayed(t, example("build u2 box 3", "pair u1 u2 3", "issue box 3", "update u1 3"))
	same(t, "partners and versions", []any{r.Units[0].Partner, r.Units[1].Partner, r.Units[0].Version, r.Units[1].Version}, []any{"u2", "u1", 2, 1})
}

// P10.1: AsOf has the events that count up to a day, and none that was undone.
func TestAsOf(t *testing.T) {
	l := example("build u2 box 5", "hold cone_1 7", "undo", "hold coil_1 7", "undo", "undo", "build u3 box 4", "hold coil_1 9")
	for day, n := range map[int]int{0: 0, 1: 6, 2: 7, 3: 11} {
		want(t, "AsOf", replayed(t, l[:n]))(works.AsOf(l, day))
	}
	r := examplesRegister()
	r.Day = 4
	r.Units = append(r.Units, unit{Name: "u3", Product: "box", Version: 1})
	for _, day := range []int{4, 5, 6, 7, 8} {
		want(t, "AsOf", r)(works.AsOf(l, day))
	}
	r.Day = 9
	r.Lots[1].Held = true
	for _, day := range []int{9, 10, api.MaxNumber} {
		want(t, "AsOf", r)(works.AsOf(l, day))
	}
	want(t, "AsOf of nothing", register{})(works.AsOf(nil, 0))
	want(t, "AsOf of nothing", register{})(works.AsOf(nil, api.MaxNumber))
	want(t, "AsOf of the day 0", register{Products: list(product{Name: "a"})})(works.AsOf(entries("product a 0", "product b 1"), 0))
	for _, day := range wrongNumbers {
		fails[register](t, "AsOf", api.ErrRange)(works.AsOf(l, day))
		fails[register](t, "AsOf", api.ErrRange)(works.AsOf(nil, day))
		fails[register](t, "AsOf", api.ErrUnknown)(works.AsOf(example("ship x 3"), day))
	}
}

// P10.1: AsOf on each day has what happened up to it, if nothing was undone.
func TestAsOfEachDay(t *testing.T) {
	var lines []string
	for i, line := range exampleLines() {
		words := strings.Split(line, " ")
		at := slices.IndexFunc(words, func(word string) bool { return word[0] <= '9' })
		words[at] = []string{"0", "2", "2", "2", "5", "5", "6", "9", "10", "10", "999999999"}[i]
		lines = append(lines, strings.Join(words, " "))
	}
	l := entries(lines...)
	for day, n := range map[int]int{0: 1, 1: 1, 2: 4, 3: 4, 4: 4, 5: 6, 6: 7, 8: 7, 9: 8, 10: 10, 11: 10, 999999998: 10, 999999999: 11} {
		want(t, "AsOf", replayed(t, l[:n]))(works.AsOf(l, day))
	}
}
