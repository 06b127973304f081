package works_test

import (
	"fmt"
	"slices"
	"strings"
	"testing"

	"woofer/api"
	"woofer/works"
)

// P10.5, P11: a unit that is shipped was ready when it was shipped: each test of its document was passed at the version
// that was valid, and no lot of it was held.
func TestShippedUnitsWereReady(t *testing.T) {
	shipped := 0
	for key := 351; key <= 380; key++ {
		_, l := drawnEvents(key, 900, nil)
		for i, e := range l {
			if e.Kind != "ship" {
				continue
			}
			shipped++
			name := e.Names[0]
			same(t, "Ready", works.Ready(l[:i], name), api.OK)
			want(t, "Missing", []string(nil))(works.Missing(l[:i], name))
			r := replayed(t, l[:i])
			u := r.Units[slices.IndexFunc(r.Units, func(u unit) bool { return u.Name == name })]
			p := r.Products[slices.IndexFunc(r.Products, func(p product) bool { return p.Name == u.Product })]
			same(t, "the version that was valid", u.Version, len(p.Documents))
			for _, x := range p.Documents[u.Version-1].Tests {
				last := -1
				for _, result := range u.Results {
					if result.Test == x.Name && result.Version == u.Version {
						last = result.Value
					}
				}
				same(t, "a test that was passed", x.Low <= last && last <= x.High, true)
			}
			for _, x := range r.Lots {
				isUsed := slices.ContainsFunc(u.Uses, func(y use) bool { return y.Lot == x.Name })
				same(t, "a lot that was held", isUsed && x.Held, false)
			}
			// It stays as it was shipped.
			last := replayed(t, l)
			behind := last.Units[slices.IndexFunc(last.Units, func(u unit) bool { return u.Name == name })]
			u.Shipped, u.Complaints = true, behind.Complaints
			same(t, "a shipped unit", behind, u)
			same(t, "Ready", works.Ready(l, name), api.ErrOver)
		}
	}
	same(t, "enough shipped units", shipped > 30, true)
}

// P10.5: parts are neither made nor lost, and a unit uses a lot exactly if the lot is used by the unit.
func TestPartsAreNotLost(t *testing.T) {
	for key := 71; key <= 90; key++ {
		_, l := drawnEvents(key, 300, nil)
		r := replayed(t, l)
		for _, x := range r.Lots {
			users := of[[]string](t)(works.WhereUsed(l, x.Name))
			sum := x.Left
			for _, u := range r.Units {
				made := of[[]string](t)(works.MadeFrom(l, u.Name))
				same(t, "both ways", slices.Contains(users, u.Name), slices.Contains(made, x.Name))
				for _, y := range u.Uses {
					if y.Lot == x.Name {
						sum += y.Count
					}
				}
			}
			same(t, "parts", []any{sum, x.Left >= 0}, []any{x.Count, true})
		}
	}
}

// P10.5: partners are partners of one another, of the same product; a recall of a lot concerns each shipped unit that uses
// it; the causes of a unit are its lots.
func TestPartnersAndRecalls(t *testing.T) {
	partners := 0
	for key := 91; key <= 120; key++ {
		_, l := drawnEvents(key, 400, nil)
		r := replayed(t, l)
		for _, u := range r.Units {
			if u.Partner != "" {
				partners++
				other := r.Units[slices.IndexFunc(r.Units, func(x unit) bool { return x.Name == u.Partner })]
				same(t, "partners", list(other.Partner, other.Product), list(u.Name, u.Product))
				same(t, "partners are two", other.Name == u.Name, false)
			}
			made := of[[]string](t)(works.MadeFrom(l, u.Name))
			causes := of[[]string](t)(works.Causes(l, list(u.Name)))
			slices.Sort(made)
			slices.Sort(causes)
			same(t, "causes", causes, made)
		}
		for _, x := range r.Lots {
			recalled := of[[]string](t)(works.Recall(l, list(x.Name)))
			for _, u := range r.Units {
				uses := slices.ContainsFunc(u.Uses, func(y use) bool { return y.Lot == x.Name })
				if u.Shipped && uses {
					same(t, "a unit that is recalled", slices.Contains(recalled, u.Name), true)
				}
				if !u.Shipped {
					same(t, "a unit that is not shipped", slices.Contains(recalled, u.Name), false)
				}
			}
		}
	}
	same(t, "enough partners", partners > 20, true)
}

// P10.5: an undo leaves the register that was before, and events behind it are as if nothing had happened.
func TestUndoLeavesTheRegister(t *testing.T) {
	next := random(5)
	for key := 121; key <= 135; key++ {
		var lines []string
		_, l := drawnEvents(key, 200, nil)
		l = slices.DeleteFunc(l, func(e event) bool { return e.Kind == "undo" })
		// Without their undos some events are not accepted any more.
		var kept []event
		for _, e := range l {
			e.Number = len(kept) + 1
			if works.Accepts(kept, e) == api.OK {
				kept = append(kept, e)
				lines = append(lines, strings.SplitN(body(e), " ", 2)[1])
			}
		}
		wanted := replayed(t, kept)
		var detour []string
		for i, line := range lines {
			if next(0, 3) == 0 {
				more := detourFrom(t, lines[:i], next)
				detour = append(detour, more...)
				detour = append(detour, slices.Repeat(list("undo"), len(more))...)
			}
			detour = append(detour, line)
		}
		if len(detour) <= api.MaxEvents {
			same(t, "Replay with a detour", replayed(t, entries(detour...)), wanted)
		}
		for _, day := range list(0, 1, 3, wanted.Day) {
			want(t, "AsOf with a detour", of[register](t)(works.AsOf(kept, day)))(works.AsOf(entries(detour...), day))
		}
	}
}

// detourFrom draws some lines that are accepted behind others, one after the other, and that may be undone.
func detourFrom(t *testing.T, lines []string, next func(least, most int) int) []string {
	t.Helper()
	l := entries(lines...)
	n := len(l)
	var more []string
	for range next(1, 8) {
		line := drawnLine(next, replayed(t, l).Day+next(0, 3))
		e := entry(len(l)+1, line)
		if strings.HasPrefix(line, "undo") || strings.HasPrefix(line, "ship") || works.Accepts(l, e) != api.OK {
			continue
		}
		l = append(l, e)
		more = append(more, line)
	}
	same(t, "the detour", len(l), n+len(more))
	return more
}

// P10.5, P11: after a crash a session has every event of its whole records, and goes on as it would have.
func TestSessionsBehindACrash(t *testing.T) {
	next := random(9)
	for key := 141; key <= 150; key++ {
		_, l := drawnEvents(key, 200, nil)
		s := works.New()
		logs := list("")
		for i, e := range l {
			want(t, "Do", fmt.Sprint("done ", i+1))(s.Do(strings.SplitN(body(e), " ", 2)[1]))
			logs = append(logs, of[string](t)(works.Append(logs[i], e)))
			same(t, "Log", s.Log() == logs[i+1], true)
		}
		same(t, "Events", s.Events(), l)
		log := s.Log()
		for range 60 {
			n := next(0, len(log))
			count := strings.Count(log[:n], "\n")
			other := of[*works.Session](t)(works.Open(log[:n]))
			same(t, "Events", other.Events(), l[:count])
			same(t, "Log", other.Log() == logs[count], true)
			if count < len(l) {
				want(t, "Do", fmt.Sprint("done ", count+1))(other.Do(strings.SplitN(body(l[count]), " ", 2)[1]))
				same(t, "Log", other.Log() == logs[count+1], true)
			}
		}
	}
}

// P10.4: lines of a session have the results of Accepts and of the traces of its events.
func TestSessionsAndTraces(t *testing.T) {
	for key := 151; key <= 160; key++ {
		s := works.New()
		drawnEvents(key, 250, func(b ledger, l []event, e event, wanted api.Errno) {
			if e.Number != len(l)+1 {
				return
			}
			line := strings.SplitN(body(e), " ", 2)[1]
			result, err := s.Do(line)
			same(t, line, err, wanted)
			if wanted == api.OK {
				same(t, line, result, fmt.Sprint("done ", len(l)+1))
				l = append(slices.Clip(l), e)
			}
			if len(l)%20 == 0 {
				asksAll(t, s, l)
			}
		})
	}
}

// words returns the answer of a list.
func words(l []string) string {
	if len(l) == 0 {
		return "none"
	}
	return strings.Join(l, " ")
}

// asksAll requires the answers of all questions of a session.
func asksAll(t *testing.T, s *works.Session, l []event) {
	t.Helper()
	r := replayed(t, l)
	same(t, "Events", s.Events(), l)
	var held, shipped []string
	for _, x := range r.Lots {
		want(t, "units", words(of[[]string](t)(works.WhereUsed(l, x.Name))))(s.Do("units " + x.Name))
		want(t, "stock", fmt.Sprint(of[int](t)(works.Stock(l, x.Kind))))(s.Do("stock " + x.Kind))
		if x.Held {
			held = append(held, x.Name)
		}
	}
	for _, x := range r.Products {
		want(t, "version", fmt.Sprint(len(x.Documents)))(s.Do("version " + x.Name))
	}
	for _, x := range r.Units {
		want(t, "lots", words(of[[]string](t)(works.MadeFrom(l, x.Name))))(s.Do("lots " + x.Name))
		want(t, "missing", words(of[[]string](t)(works.Missing(l, x.Name))))(s.Do("missing " + x.Name))
		if x.Shipped {
			shipped = append(shipped, x.Name)
		}
	}
	want(t, "held", words(held))(s.Do("held"))
	want(t, "shipped", words(shipped))(s.Do("shipped"))
}

// spoil changes all that may be reached from a register, and requires that nothing of it has been changed before.
func spoil(t *testing.T, r register) {
	t.Helper()
	spoilLots(t, r.Lots)
	for i := range r.Units {
		spoilUses(t, r.Units[i].Uses)
		all := r.Units[i].Results[:cap(r.Units[i].Results)]
		for k := range all {
			same(t, "results share memory", all[k].Value == -7, false)
			all[k] = result{"spoilt", -7, -7}
		}
	}
	for i := range r.Products {
		for _, d := range append(slices.Clone(r.Products[i].Documents), r.Products[i].Draft) {
			spoilDocument(t, d)
		}
		clear(r.Products[i].Documents[:cap(r.Products[i].Documents)])
	}
	clear(r.Units[:cap(r.Units)])
	clear(r.Products[:cap(r.Products)])
}

func spoilLots(t *testing.T, l []lot) {
	t.Helper()
	for i := range l[:cap(l)] {
		same(t, "lots share memory", l[:cap(l)][i].Count == -7, false)
		l[:cap(l)][i] = lot{"spoilt", "spoilt", -7, -7, true}
	}
}

func spoilUses(t *testing.T, l []use) {
	t.Helper()
	for i := range l[:cap(l)] {
		same(t, "uses share memory", l[:cap(l)][i].Count == -7, false)
		l[:cap(l)][i] = use{"spoilt", -7}
	}
}

func spoilDocument(t *testing.T, d document) {
	t.Helper()
	for i := range d.Needs[:cap(d.Needs)] {
		same(t, "needs share memory", d.Needs[:cap(d.Needs)][i].Count == -7, false)
		d.Needs[:cap(d.Needs)][i] = need{"spoilt", -7}
	}
	for i := range d.Tests[:cap(d.Tests)] {
		same(t, "tests share memory", d.Tests[:cap(d.Tests)][i].Low == -7, false)
		d.Tests[:cap(d.Tests)][i] = test{"spoilt", -7, -7}
	}
}

// P10.1 to P10.4, the rule Memory: arguments are not modified, and results share no memory with them or with each other.
func TestMemory(t *testing.T) {
	l := shipment()
	for _, line := range list("issue box 3", "test box a 3 1 2", "issue box 3", "issue box 3", "update u2 3", "hold coil_1 3", "undo") {
		l = append(l, entry(len(l)+1, line))
	}
	l = append(make([]event, 0, 99), l...)
	for i := range l {
		l[i].Names = append(make([]string, 0, 9), l[i].Names...)
		l[i].Values = append(make([]int, 0, 9), l[i].Values...)
	}
	names := append(make([]string, 0, 9), "u1", "u3")
	lots := append(make([]string, 0, 9), "cone_1", "cone_2")
	arguments := func() string {
		text := fmt.Sprint(l[:cap(l)], names[:cap(names)], lots[:cap(lots)])
		for _, e := range l {
			text += fmt.Sprint(e.Names[:9], e.Values[:9])
		}
		return text
	}
	results := func() (string, func()) {
		r, early := replayed(t, l), of[register](t)(works.AsOf(l, 3))
		texts := list(
			of[[]string](t)(works.MadeFrom(l, "u3")), of[[]string](t)(works.WhereUsed(l, "cone_1")), of[[]string](t)(works.Recall(l, lots)),
			of[[]string](t)(works.Causes(l, names)), of[[]string](t)(works.Missing(l, "u2")),
		)
		works.CheckEvent(l[0])
		works.Accepts(l, l[0])
		works.Ready(l, "u2")
		works.Stock(l, "cone")
		return fmt.Sprint(r, early, texts), func() {
			spoil(t, r)
			spoil(t, early)
			for _, x := range texts {
				for i := range x[:cap(x)] {
					same(t, "names share memory", x[:cap(x)][i] == "spoilt", false)
					x[:cap(x)][i] = "spoilt"
				}
			}
		}
	}
	before := arguments()
	wanted, change := results()
	same(t, "arguments", arguments(), before)
	change()
	same(t, "arguments behind a change of results", arguments(), before)
	text, _ := results()
	same(t, "results behind it", text, wanted)
}

// P10.3, P10.4, the rule Memory: events of a log, and of a session.
func TestMemoryOfSessions(t *testing.T) {
	s := exampleSession(t)
	log := s.Log()
	recovered, _, _ := works.Recover(log)
	for _, l := range [][]event{s.Events(), recovered, s.Events()} {
		same(t, "Events", l, example())
		for i := range l {
			for k := range l[i].Names[:cap(l[i].Names)] {
				l[i].Names[:cap(l[i].Names)][k] = "spoilt"
			}
			for k := range l[i].Values[:cap(l[i].Values)] {
				l[i].Values[:cap(l[i].Values)][k] = -7
			}
		}
		clear(l[:cap(l)])
	}
	same(t, "Events", s.Events(), example())
	same(t, "Log", s.Log(), log)
	does(t, s, "ship u1 3")
}

// P1: no function panics, whatever its arguments are.
func TestNothingPanics(t *testing.T) {
	strange := joined(list("u1", "cone_1", "box", "cone", "sweep", "undo", "lots u1", "lots", "1 undo#"+sum("1 undo")+"\n"), wrongNames)
	numbers := append(list(0, 1, 2, 3, 11, 12, 1000, 1001), wrongNumbers...)
	var events []event
	for _, kind := range joined(list("", "x"), numbered(len(shapes), func(i string) string { return shapes[len(i)].kind })) {
		for _, n := range numbers {
			events = append(events, event{Number: n, Kind: kind}, event{Number: 12, Kind: kind, Values: list(n, n)}, event{Number: 12, Kind: kind, Names: list("u1"), Values: list(n)})
		}
	}
	for _, x := range wrongEvents(12) {
		events = append(events, x.e)
	}
	for _, s := range shapes {
		for _, name := range strange {
			e := shaped(12, s)
			for i := range e.Names {
				e.Names[i] = name
			}
			events = append(events, e)
		}
	}
	for i, e := range events {
		works.CheckEvent(e)
		works.Accepts(nil, e)
		works.Accepts(example(), e)
		works.Replay(list(e))
		works.Replay(append(example(), e, e))
		works.AsOf(list(e), numbers[i%len(numbers)])
		works.Append("", e)
		works.Append(sealed(numberedLines(exampleLines()...)...), e)
		works.Ready(list(e), "u1")
	}
	for _, text := range strange {
		works.MadeFrom(example(), text)
		works.WhereUsed(example(), text)
		works.Recall(example(), list(text, text))
		works.Causes(example(), list(text, text))
		works.Ready(example(), text)
		works.Missing(example(), text)
		works.Stock(example(), text)
		works.Append(text, entry(1, "undo"))
		works.Recover(text)
		works.Open(text)
		works.New().Do(text)
		for _, kind := range strange {
			works.New().Do(kind + " " + text)
			works.Recover(kind + text)
			works.Recover(sealed(kind + " " + text))
		}
	}
}
