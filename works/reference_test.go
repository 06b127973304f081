package works_test

import (
	"fmt"
	"slices"
	"strings"
	"testing"

	"woofer/api"
	"woofer/works"
)

// ledger is the events that count, and the number of all events. It keeps nothing else: what a register has is counted and
// searched for in its events.
type ledger struct {
	number int
	l      []event
}

// at returns the places of the events of a kind whose first Names are these.
func (b ledger) at(kind string, names ...string) []int {
	var places []int
	for i, e := range b.l {
		if e.Kind == kind && slices.Equal(e.Names[:len(names)], names) {
			places = append(places, i)
		}
	}
	return places
}

// before returns the events that count before a place.
func (b ledger) before(place int) ledger {
	return ledger{b.number, b.l[:place]}
}

func (b ledger) day() int {
	if len(b.l) == 0 {
		return 0
	}
	return b.l[len(b.l)-1].Values[0]
}

func (b ledger) is(kind, name string) bool {
	return len(b.at(kind, name)) > 0
}

func (b ledger) version(product string) int {
	return len(b.at("issue", product))
}

// versionOf returns the version of a unit.
func (b ledger) versionOf(unit string) int {
	places := append(b.at("build", unit), b.at("update", unit)...)
	return b.before(places[len(places)-1]).version(b.productOf(unit))
}

func (b ledger) productOf(unit string) string {
	return b.l[b.at("build", unit)[0]].Names[1]
}

// draft returns the draft of a product.
func (b ledger) draft(product string) document {
	var d document
	for _, i := range b.at("need", product) {
		e := b.l[i]
		isSame := func(x need) bool { return x.Kind == e.Names[1] }
		place := slices.IndexFunc(d.Needs, isSame)
		switch {
		case e.Values[1] == 0:
			d.Needs = slices.DeleteFunc(d.Needs, isSame)
		case place >= 0:
			d.Needs[place].Count = e.Values[1]
		default:
			d.Needs = append(d.Needs, need{e.Names[1], e.Values[1]})
		}
	}
	seen := map[string]bool{}
	for _, i := range b.at("test", product) {
		name := b.l[i].Names[1]
		if seen[name] {
			continue
		}
		seen[name] = true
		all := b.at("test", product, name)
		last := b.l[all[len(all)-1]]
		d.Tests = append(d.Tests, test{name, last.Values[1], last.Values[2]})
	}
	return d
}

// document returns the document of a version of a product.
func (b ledger) document(product string, version int) document {
	return b.before(b.at("issue", product)[version-1]).draft(product)
}

func (b ledger) documentOf(unit string) document {
	return b.document(b.productOf(unit), b.versionOf(unit))
}

func (b ledger) isHeld(name string) bool {
	return len(b.at("hold", name)) > len(b.at("free", name))
}

func (b ledger) kindOf(lot string) string {
	return b.l[b.at("lot", lot)[0]].Names[1]
}

// used returns how many parts of a lot all units use, or one.
func (b ledger) used(lot string, units ...string) int {
	sum := 0
	for _, e := range b.l {
		if e.Kind == "use" && e.Names[1] == lot && (len(units) == 0 || e.Names[0] == units[0]) {
			sum += e.Values[1]
		}
	}
	return sum
}

func (b ledger) left(lot string) int {
	return b.l[b.at("lot", lot)[0]].Values[1] - b.used(lot)
}

// uses returns those of a unit.
func (b ledger) uses(unit string) []use {
	var l []use
	for _, i := range b.at("use", unit) {
		x := use{b.l[i].Names[1], b.used(b.l[i].Names[1], unit)}
		if !slices.Contains(l, x) {
			l = append(l, x)
		}
	}
	return l
}

// results returns those of a unit.
func (b ledger) results(unit string) []result {
	var l []result
	for _, i := range b.at("measure", unit) {
		l = append(l, result{b.l[i].Names[1], b.before(i).versionOf(unit), b.l[i].Values[1]})
	}
	return l
}

func (b ledger) partner(unit string) string {
	for _, e := range b.l {
		if e.Kind == "pair" && slices.Contains(e.Names, unit) {
			return e.Names[1-slices.Index(e.Names, unit)]
		}
	}
	return ""
}

// missing returns the tests that a unit does not pass.
func (b ledger) missing(unit string) []string {
	var l []string
	version := b.versionOf(unit)
	for _, x := range b.documentOf(unit).Tests {
		results := slices.DeleteFunc(b.results(unit), func(r result) bool { return r.Test != x.Name || r.Version != version })
		if n := len(results); n == 0 || results[n-1].Value < x.Low || results[n-1].Value > x.High {
			l = append(l, x.Name)
		}
	}
	return l
}

func (b ledger) isComplete(unit string) bool {
	for _, x := range b.documentOf(unit).Needs {
		count := 0
		for _, y := range b.uses(unit) {
			if b.kindOf(y.Lot) == x.Kind {
				count += y.Count
			}
		}
		if count < x.Count {
			return false
		}
	}
	return true
}

// ready returns the error of a unit that is not ready.
func (b ledger) ready(unit string) api.Errno {
	switch {
	case b.is("ship", unit):
		return api.ErrOver
	case b.versionOf(unit) != b.version(b.productOf(unit)):
		return api.ErrVersion
	case !b.isComplete(unit):
		return api.ErrState
	case len(b.missing(unit)) > 0:
		return api.ErrFail
	case slices.ContainsFunc(b.uses(unit), func(x use) bool { return b.isHeld(x.Lot) }):
		return api.ErrHold
	}
	return api.OK
}

// names returns those of the lots, products or units: the first Names of the events that add them.
func (b ledger) names(kind string) []string {
	var l []string
	for _, i := range b.at(kind) {
		l = append(l, b.l[i].Names[0])
	}
	return l
}

// register returns the register.
func (b ledger) register() register {
	r := register{Day: b.day()}
	for _, name := range b.names("lot") {
		count := b.l[b.at("lot", name)[0]].Values[1]
		r.Lots = append(r.Lots, lot{name, b.kindOf(name), count, b.left(name), b.isHeld(name)})
	}
	for _, name := range b.names("product") {
		p := product{Name: name, Draft: b.draft(name)}
		for version := range b.version(name) {
			p.Documents = append(p.Documents, b.document(name, version+1))
		}
		r.Products = append(r.Products, p)
	}
	for _, name := range b.names("build") {
		r.Units = append(r.Units, unit{name, b.productOf(name), b.versionOf(name), b.uses(name), b.results(name), b.partner(name), b.is("ship", name), len(b.at("complain", name))})
	}
	return r
}

// adders are the kinds that add what the names of a kind are those of; other names are of no such things.
var adders = map[string][]string{
	"lot": {"", ""}, "product": {""}, "need": {"product", ""}, "test": {"product", ""}, "issue": {"product"}, "build": {"", "product"}, "use": {"build", "lot"},
	"measure": {"build", ""}, "update": {"build"}, "pair": {"build", "build"}, "hold": {"lot"}, "free": {"lot"}, "ship": {"build"}, "complain": {"build"},
}

// errorOf returns the error with which an event that is right by itself is not accepted.
func (b ledger) errorOf(e event) api.Errno {
	if e.Number != b.number+1 {
		return api.ErrOrder
	}
	if e.Kind == "undo" {
		if len(b.l) == 0 {
			return api.ErrEmpty
		}
		if b.l[len(b.l)-1].Kind == "ship" {
			return api.ErrRule
		}
		return api.OK
	}
	if e.Values[0] < b.day() {
		return api.ErrState
	}
	for i, kind := range adders[e.Kind] {
		if kind != "" && !b.is(kind, e.Names[i]) {
			return api.ErrUnknown
		}
	}
	for _, x := range b.rules(e) {
		if x.holds() {
			return x.e
		}
	}
	return api.OK
}

// broken is a condition, and the error if it holds.
type broken struct {
	holds func() bool
	e     api.Errno
}

// rules returns the conditions of the kind of an event, in their order.
func (b ledger) rules(e event) []broken {
	name := append(slices.Clone(e.Names), "", "")
	value := append(slices.Clone(e.Values), 0, 0)
	isShipped := func() bool { return b.is("ship", name[0]) }
	hasPartner := func() bool { return b.partner(name[0])+b.partner(name[1]) != "" }
	isNeeded := func(d document, kind string) bool {
		return slices.ContainsFunc(d.Needs, func(x need) bool { return x.Kind == kind })
	}
	isTested := func(d document) bool {
		return slices.ContainsFunc(d.Tests, func(x test) bool { return x.Name == name[1] })
	}
	all := map[string][]broken{
		"lot": {
			{func() bool { return b.is("lot", name[0]) }, api.ErrTwice},
			{func() bool { return value[1] < 1 || value[1] > 10000 }, api.ErrRange},
			{func() bool { return len(b.at("lot")) >= 64 }, api.ErrMany},
		},
		"product": {
			{func() bool { return b.is("product", name[0]) }, api.ErrTwice},
			{func() bool { return len(b.at("product")) >= 16 }, api.ErrMany},
		},
		"need": {
			{func() bool { return value[1] > 10000 }, api.ErrRange},
			{func() bool {
				d := b.draft(name[0])
				return value[1] > 0 && !isNeeded(d, name[1]) && len(d.Needs) >= 16
			}, api.ErrMany},
		},
		"test": {
			{func() bool { return value[2] < value[1] }, api.ErrOrder},
			{func() bool { d := b.draft(name[0]); return !isTested(d) && len(d.Tests) >= 16 }, api.ErrMany},
		},
		"issue": {
			{func() bool { return len(b.draft(name[0]).Needs) == 0 }, api.ErrEmpty},
			{func() bool { return b.version(name[0]) >= 100 }, api.ErrMany},
		},
		"build": {
			{func() bool { return b.is("build", name[0]) }, api.ErrTwice},
			{func() bool { return b.version(name[1]) == 0 }, api.ErrVersion},
			{func() bool { return len(b.at("build")) >= 256 }, api.ErrMany},
		},
		"use": {
			{isShipped, api.ErrOver},
			{func() bool { return value[1] == 0 }, api.ErrRange},
			{func() bool { return b.isHeld(name[1]) }, api.ErrHold},
			{func() bool { return !isNeeded(b.documentOf(name[0]), b.kindOf(name[1])) }, api.ErrNone},
			{func() bool { return b.left(name[1]) < value[1] }, api.ErrLarge},
		},
		"measure": {
			{isShipped, api.ErrOver},
			{func() bool { return !isTested(b.documentOf(name[0])) }, api.ErrNone},
			{func() bool { return len(b.at("measure", name[0])) >= 64 }, api.ErrMany},
		},
		"update": {
			{isShipped, api.ErrOver},
			{func() bool { return b.versionOf(name[0]) == b.version(b.productOf(name[0])) }, api.ErrVersion},
		},
		"pair": {
			{func() bool { return name[0] == name[1] }, api.ErrTwice},
			{func() bool {
				return b.productOf(name[0]) != b.productOf(name[1]) || b.versionOf(name[0]) != b.versionOf(name[1])
			}, api.ErrConflict},
			{func() bool { return isShipped() || b.is("ship", name[1]) }, api.ErrOver},
			{hasPartner, api.ErrMatch},
		},
		"hold":     {{func() bool { return b.isHeld(name[0]) }, api.ErrHold}},
		"free":     {{func() bool { return !b.isHeld(name[0]) }, api.ErrState}},
		"ship":     {{func() bool { return b.ready(name[0]) != api.OK }, b.readyOrOK(name[0])}},
		"complain": {{func() bool { return !isShipped() }, api.ErrState}},
	}
	return all[e.Kind]
}

// readyOrOK is ready for a unit, and OK for any other name.
func (b ledger) readyOrOK(name string) api.Errno {
	if !b.is("build", name) {
		return api.OK
	}
	return b.ready(name)
}

// add adds an event that is accepted.
func (b ledger) add(e event) ledger {
	if e.Kind == "undo" {
		return ledger{b.number + 1, b.l[:len(b.l)-1]}
	}
	return ledger{b.number + 1, append(slices.Clone(b.l), e)}
}

// drawnLine draws the line of an event, not far from those that are accepted on a day.
func drawnLine(next func(least, most int) int, day int) string {
	lots, products, units := list("la", "lb", "lc", "ld", "le"), list("p", "q"), list("u", "v", "w", "x", "y", "z")
	kinds, tests := list("cone", "coil", "box"), list("s", "t")
	if next(0, 30) == 0 {
		lots, products, units = list("x"), list("r", "x"), list("la", "p", "o")
	}
	if next(0, 9) == 0 {
		day += list(-1, 1, 1, 2)[next(0, 3)]
	}
	day = max(day, 0)
	one := func(l []string) string { return l[next(0, len(l)-1)] }
	// One of these words is drawn, the same one several times as likely as another one.
	acts := joined(
		strings.Fields("lot lot product need test issue build build hold free free complain complain complain undo"),
		slices.Repeat(list("use"), 12), slices.Repeat(list("measure", "ship"), 10), slices.Repeat(list("update", "pair"), 4),
	)
	switch one(acts) {
	case "lot":
		return fmt.Sprint("lot ", one(lots), " ", one(kinds), " ", day, " ", pick(next, 0, 3, 9, 9, 30, 30, 10000, 10001))
	case "product":
		return fmt.Sprint("product ", one(products), " ", day)
	case "need":
		return fmt.Sprint("need ", one(products), " ", one(kinds), " ", day, " ", pick(next, 0, 0, 1, 1, 1, 2, 3, 10001))
	case "test":
		return fmt.Sprint("test ", one(products), " ", one(tests), " ", day, " ", next(0, 3), " ", next(2, 6))
	case "build":
		return fmt.Sprint("build ", one(units), " ", one(products), " ", day)
	case "use":
		return fmt.Sprint("use ", one(units), " ", one(lots), " ", day, " ", pick(next, 0, 1, 1, 1, 2, 2, 3, 9))
	case "measure":
		return fmt.Sprint("measure ", one(units), " ", one(tests), " ", day, " ", pick(next, 0, 2, 3, 3, 3, 4, 7))
	case "pair":
		return fmt.Sprint("pair ", one(units), " ", one(units), " ", day)
	case "issue":
		return fmt.Sprint("issue ", one(products), " ", day)
	case "hold":
		return fmt.Sprint("hold ", one(lots), " ", day)
	case "free":
		return fmt.Sprint("free ", one(lots), " ", day)
	case "update":
		return fmt.Sprint("update ", one(units), " ", day)
	case "ship":
		return fmt.Sprint("ship ", one(units), " ", day)
	case "complain":
		return fmt.Sprint("complain ", one(units), " ", day)
	}
	return "undo"
}

// drawnEvents draws n lines behind some that begin a works, and calls try, if there is one, with the ledger of those that
// were accepted and each next event.
func drawnEvents(key, n int, try func(b ledger, l []event, e event, wanted api.Errno)) (ledger, []event) {
	next := random(key)
	var b ledger
	var l []event
	first := list("lot la cone 0 30", "lot lb coil 0 20", "product p 0", "need p cone 0 1", "need p coil 0 1", "test p s 0 2 4", "issue p 0", "product q 0", "need q cone 0 2", "issue q 0",
		"build u p 1", "build v p 1", "build w q 1", "build x p 1", "build y p 1")[:pick(next, 0, 7, 10, 15, 15)]
	for i := range n {
		line := drawnLine(next, b.day())
		if i < len(first) {
			line = first[i]
		}
		e := entry(b.number+1, line)
		if next(0, 99) == 0 {
			e.Number = max(1, e.Number+list(-1, 1)[next(0, 1)])
		}
		wanted := b.errorOf(e)
		if try != nil {
			try(b, l, e, wanted)
		}
		if wanted == api.OK {
			b = b.add(e)
			l = append(l, e)
		}
	}
	return b, l
}

// P10.1: Accepts and Replay of drawn events, by a register that is counted in the events.
func TestDrawnEvents(t *testing.T) {
	seen := map[string]int{}
	for key := 1; key <= 30; key++ {
		b, l := drawnEvents(key, 400, func(b ledger, l []event, e event, wanted api.Errno) {
			seen[e.Kind+" "+fmt.Sprint(wanted)]++
			if got := works.Accepts(l, e); got != wanted {
				t.Errorf("Accepts of %v behind %d events: got %v, want %v", e, len(l), got, wanted)
			}
			if len(l)%5 == 0 {
				same(t, "Replay", replayed(t, l), b.register())
			}
		})
		same(t, "Replay", replayed(t, l), b.register())
		for day := range b.day() + 3 {
			past := slices.IndexFunc(b.l, func(e event) bool { return e.Values[0] > day })
			if past < 0 {
				past = len(b.l)
			}
			want(t, "AsOf", b.before(past).register())(works.AsOf(l, day))
		}
	}
	var few []string
	for _, x := range strings.Split("lot 0,lot 3,lot 9,product 9,need 3,need 10,test 11,issue 12,build 9,build 32,use 3,use 4,use 7,use 10,use 21,use 34,measure 7,measure 21,update 21,update 32,"+
		"pair 9,pair 21,pair 30,pair 35,hold 34,free 20,ship 20,ship 21,ship 31,ship 32,ship 34,complain 20,undo 12,undo 19,lot 20,"+
		"product 0,need 0,test 0,issue 0,build 0,use 0,measure 0,update 0,pair 0,hold 0,free 0,ship 0,complain 0,undo 0", ",") {
		if seen[x] == 0 {
			few = append(few, x)
		}
	}
	same(t, "kinds and errors that were never drawn", few, []string{})
}

// P10.2: the traces of drawn events.
func TestDrawnTraces(t *testing.T) {
	next := random(77)
	for key := 21; key <= 40; key++ {
		b, l := drawnEvents(key, next(50, 500), nil)
		units, lots := b.names("build"), b.names("lot")
		lotsOf := func(unit string) []string {
			var l []string
			for _, x := range b.uses(unit) {
				l = append(l, x.Lot)
			}
			return l
		}
		for _, name := range units {
			want(t, "MadeFrom", lotsOf(name))(works.MadeFrom(l, name))
			want(t, "Missing", b.missing(name))(works.Missing(l, name))
			same(t, "Ready", works.Ready(l, name), b.ready(name))
		}
		for _, name := range lots {
			want(t, "WhereUsed", slices.DeleteFunc(slices.Clone(units), func(u string) bool { return b.used(name, u) == 0 }))(works.WhereUsed(l, name))
		}
		for _, kind := range list("cone", "coil", "box", "other") {
			left := 0
			for _, name := range lots {
				if b.kindOf(name) == kind && !b.isHeld(name) {
					left += b.left(name)
				}
			}
			want(t, "Stock", left)(works.Stock(l, kind))
		}
		for range 20 {
			some := slices.DeleteFunc(slices.Clone(lots), func(string) bool { return next(0, 2) > 0 })
			uses := func(u string) bool {
				return b.is("ship", u) && slices.ContainsFunc(some, func(x string) bool { return b.used(x, u) > 0 })
			}
			want(t, "Recall", slices.DeleteFunc(slices.Clone(units), func(u string) bool {
				return !uses(u) && !(b.is("ship", u) && uses(b.partner(u)))
			}))(works.Recall(l, some))
			few := slices.DeleteFunc(slices.Clone(units), func(string) bool { return next(0, 1) > 0 })
			if len(few) > 0 {
				want(t, "Causes", slices.DeleteFunc(slices.Clone(lots), func(x string) bool {
					return slices.ContainsFunc(few, func(u string) bool { return b.used(x, u) == 0 })
				}))(works.Causes(l, few))
			}
		}
	}
}
