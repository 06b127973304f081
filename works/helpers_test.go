package works_test

import (
	"fmt"
	"math"
	"slices"
	"strconv"
	"strings"
	"testing"

	"woofer/api"
	"woofer/works"
)

type (
	event    = api.Event
	register = works.Register
	lot      = works.Lot
	need     = works.Need
	test     = works.Test
	document = works.Document
	product  = works.Product
	use      = works.Use
	result   = works.Result
	unit     = works.Unit
)

// same compares a result with the expected one; printed, nil and the empty list are equal.
func same(t *testing.T, what string, got, wanted any) {
	t.Helper()
	if g, w := fmt.Sprintf("%+v", got), fmt.Sprintf("%+v", wanted); g != w {
		t.Errorf("%s: got %s, want %s", what, short(g), short(w))
	}
}

func short(s string) string {
	if len(s) > 2000 {
		return s[:2000] + ".."
	}
	return s
}

// want requires a result without an error.
func want[T any](t *testing.T, what string, wanted T) func(T, api.Errno) {
	return func(got T, e api.Errno) {
		t.Helper()
		same(t, what+": error", e, api.OK)
		same(t, what, got, wanted)
	}
}

// fails requires an error, and nothing beside it.
func fails[T any](t *testing.T, what string, wanted api.Errno) func(T, api.Errno) {
	return func(got T, e api.Errno) {
		t.Helper()
		var zero T
		same(t, what+": error", e, wanted)
		same(t, what+": beside the error", got, zero)
	}
}

// of requires a result without an error, and returns it.
func of[T any](t *testing.T) func(T, api.Errno) T {
	return func(got T, e api.Errno) T {
		t.Helper()
		same(t, "error", e, api.OK)
		return got
	}
}

// list returns the list of its elements.
func list[T any](l ...T) []T {
	return l
}

// joined returns a list of the elements of several ones.
func joined[T any](lists ...[]T) []T {
	return slices.Concat(lists...)
}

// numbered returns the list of what f returns for the numbers from 0 to n - 1.
func numbered[T any](n int, f func(i string) T) []T {
	l := make([]T, n)
	for i := range l {
		l[i] = f(strconv.Itoa(i))
	}
	return l
}

// entry returns the event of a body without its Number: words of digits alone are Values.
func entry(number int, line string) event {
	words := strings.Split(line, " ")
	e := event{Number: number, Kind: words[0]}
	for _, word := range words[1:] {
		if n, err := strconv.Atoi(word); err == nil {
			e.Values = append(e.Values, n)
		} else {
			e.Names = append(e.Names, word)
		}
	}
	return e
}

// entries returns the events of bodies without Numbers.
func entries(lines ...string) []event {
	var l []event
	for i, line := range lines {
		l = append(l, entry(i+1, line))
	}
	return l
}

// exampleLines returns the events of the chapter's examples.
func exampleLines() []string {
	return list(
		"lot cone_1 cone 1 10", "lot coil_1 coil 1 5", "product box 1", "need box cone 1 2", "need box coil 1 1", "test box sweep 1 80 90",
		"issue box 2", "build u1 box 3", "use u1 cone_1 3 2", "use u1 coil_1 3 1", "measure u1 sweep 3 85",
	)
}

// example returns the events of the chapter's examples, and more behind them.
func example(more ...string) []event {
	return entries(append(exampleLines(), more...)...)
}

// built returns the lines with which a unit of the examples becomes ready.
func built(name string) []string {
	return list("build "+name+" box 3", "use "+name+" cone_1 3 2", "use "+name+" coil_1 3 1", "measure "+name+" sweep 3 85")
}

// accepts requires that an event is accepted behind others, or the error with which it is not; by Replay, too.
func accepts(t *testing.T, before []string, line string, wanted api.Errno) {
	t.Helper()
	l := entries(before...)
	e := entry(len(l)+1, line)
	what := line + " behind " + strings.Join(before[max(0, len(before)-3):], ", ")
	same(t, "Accepts of "+what, works.Accepts(l, e), wanted)
	number := 0
	if wanted != api.OK {
		number = len(l) + 1
	}
	_, gotNumber, got := works.Replay(append(l, e))
	same(t, "Replay of "+what, list(int(got), gotNumber), list(int(wanted), number))
}

// replayed requires that events are accepted, and returns the register behind them.
func replayed(t *testing.T, l []event) register {
	t.Helper()
	r, number, e := works.Replay(l)
	same(t, "Replay", list(number, int(e)), list(0, 0))
	return r
}

// random returns a function that draws integers from least to most.
func random(key int) func(least, most int) int {
	x := key
	return func(least, most int) int {
		x = x * 48271 % 2147483647
		return least + (x>>7)%(most-least+1)
	}
}

// pick returns a function that draws an element of a list.
func pick[T any](next func(least, most int) int, l ...T) T {
	return l[next(0, len(l)-1)]
}

// wrongNames are strings that are no names.
var wrongNames = []string{"", "1", "_a", "9a", "a b", " a", "a ", "a-", "ä", "a\n", "a#", "\xff", "\x00", strings.Repeat("a", api.MaxName+1), strings.Repeat("a", 9999)}

// wrongNumbers are integers that are beyond any limit.
var wrongNumbers = []int{math.MinInt, math.MinInt32, -1, api.MaxNumber + 1, math.MaxInt32, math.MaxInt}

// wrongEvent is an event with its error.
type wrongEvent struct {
	e   event
	err api.Errno
}

// shape is a kind with the numbers of its Names and its Values.
type shape struct {
	kind          string
	names, values int
}

// shapes are those of all kinds.
var shapes = []shape{
	{"lot", 2, 2}, {"product", 1, 1}, {"need", 2, 2}, {"test", 2, 3}, {"issue", 1, 1}, {"build", 2, 1}, {"use", 2, 2}, {"measure", 2, 2},
	{"update", 1, 1}, {"pair", 2, 1}, {"hold", 1, 1}, {"free", 1, 1}, {"ship", 1, 1}, {"complain", 1, 1}, {"undo", 0, 0},
}

// shaped returns an event of a kind that is right by itself.
func shaped(number int, s shape) event {
	return event{Number: number, Kind: s.kind, Names: slices.Repeat(list("n"), s.names), Values: slices.Repeat(list(7), s.values)}
}

// wrongEvents returns events with an error for the Number; that of a later check comes behind that of an earlier one.
func wrongEvents(number int) []wrongEvent {
	var l []wrongEvent
	add := func(err api.Errno, e event) {
		l = append(l, wrongEvent{e, err})
	}
	for _, kind := range []string{"", "Lot", "lots", "lot ", " lot", "und", "undoo", "shipped", "held", "stock", "none", "\xff", strings.Repeat("x", 9999)} {
		add(api.ErrKind, event{Number: number, Kind: kind})
		add(api.ErrKind, event{Number: number, Kind: kind, Names: list(""), Values: list(-1), Text: "x"})
		add(api.ErrKind, event{Number: number, Kind: kind, Names: list("a", "b"), Values: list(1, 2)})
	}
	for _, s := range shapes {
		for names := range 4 {
			for values := range 5 {
				if names == s.names && values == s.values {
					continue
				}
				other := shaped(number, shape{s.kind, names, values})
				add(api.ErrShape, other)
				other.Names, other.Values, other.Text = slices.Repeat(list(""), names), slices.Repeat(list(-1), values), "x"
				add(api.ErrShape, other)
			}
		}
		add(api.ErrShape, event{Number: number, Kind: s.kind, Names: make([]string, 9999), Values: make([]int, 9999)})
		for i := range s.names {
			for _, name := range wrongNames {
				e := shaped(number, s)
				e.Names[i] = name
				add(api.ErrName, e)
				e.Values = slices.Repeat(list(-1), s.values)
				e.Text = "x"
				add(api.ErrName, e)
			}
		}
		for i := range s.values {
			for _, n := range wrongNumbers {
				e := shaped(number, s)
				e.Values[i] = n
				add(api.ErrRange, e)
				e.Text = "x"
				add(api.ErrRange, e)
			}
		}
		for _, text := range []string{"x", " ", "\x00", strings.Repeat("x", 9999)} {
			e := shaped(number, s)
			e.Text = text
			add(api.ErrForm, e)
		}
	}
	return l
}
