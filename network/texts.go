package network

import (
	"strconv"
	"strings"

	"woofer/api"
	"woofer/common"
)

// The text of a ladder.
const (
	wire     = "wire" // without elements
	between  = " "    // elements
	together = ":"    // the parts of an element
)

// Print returns the text of a ladder.
func Print(l []Element) (string, api.Errno) {
	if e := CheckLadder(l); e != api.OK {
		return "", e
	}
	if len(l) == 0 {
		return wire, api.OK
	}
	words := common.Mapped(l, func(x Element) string {
		return x.Kind + together + strconv.Itoa(x.A) + together + strconv.Itoa(x.B)
	})
	return strings.Join(words, between), api.OK
}

// Parse returns the ladder of a text.
func Parse(s string) ([]Element, api.Errno) {
	if len(s) > api.MaxText {
		return nil, api.ErrLong
	}
	l, ok := readLadder(s)
	if !ok {
		return nil, api.ErrSyntax
	}
	if e := CheckLadder(l); e != api.OK {
		return nil, e
	}
	return l, api.OK
}

// readLadder reads a text, and reports whether it has its form.
func readLadder(s string) ([]Element, bool) {
	if s == wire {
		return nil, true
	}
	var l []Element
	for _, word := range strings.Split(s, between) {
		parts := common.Split(word, together)
		x, ok := readElement(parts.Next)
		if !ok || !parts.Ended() {
			return nil, false
		}
		l = append(l, x)
	}
	return l, true
}

// readElement reads the parts of an element, and reports whether they have their form.
func readElement(next func() string) (Element, bool) {
	kind := next()
	a, okA := common.Natural(next())
	b, okB := common.Natural(next())
	return Element{Kind: kind, A: a, B: b}, kind != "" && okA && okB
}
