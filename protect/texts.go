package protect

import (
	"slices"
	"strconv"
	"strings"

	"woofer/api"
	"woofer/common"
)

// The words of a text that integers stand behind.
const (
	headOfLimits = "guard"
	headOfTaps   = "taps"
	headOfGains  = "gains"
)

// blank is between the words of a text.
const blank = " "

// Print returns the text of a guard.
func Print(g Guard) (string, api.Errno) {
	if e := CheckGuard(g); e != api.OK {
		return "", e
	}
	parts := []string{
		partOf(headOfLimits, g.Leak, g.Heat, g.Reach),
		partOf(headOfTaps, g.Taps...),
		partOf(headOfGains, g.Gains...),
	}
	return strings.Join(parts, blank), api.OK
}

// partOf returns the part of a text with a head and the integers behind it.
func partOf(head string, l ...int) string {
	return head + strings.Join(common.Mapped(l, func(n int) string { return blank + strconv.Itoa(n) }), "")
}

// Parse returns the guard of a text.
func Parse(s string) (Guard, api.Errno) {
	if len(s) > api.MaxText {
		return Guard{}, api.ErrLong
	}
	g, ok := readGuard(s)
	if !ok {
		return Guard{}, api.ErrSyntax
	}
	if e := CheckGuard(g); e != api.OK {
		return Guard{}, e
	}
	return g, api.OK
}

// readGuard returns the guard of a text, and whether the text has its form.
func readGuard(s string) (Guard, bool) {
	heads, lists := readParts(s)
	if !slices.Equal(heads, []string{headOfLimits, headOfTaps, headOfGains}) || len(lists[0]) != 3 {
		return Guard{}, false
	}
	limits := lists[0]
	return Guard{Leak: limits[0], Heat: limits[1], Reach: limits[2], Taps: lists[1], Gains: lists[2]}, true
}

// readParts returns the heads of a text, which are its first word and all others that are no integers, and the integers
// behind each of them.
func readParts(s string) ([]string, [][]int) {
	var heads []string
	var lists [][]int
	words := common.Split(s, blank)
	next := words.Next
	for !words.Ended() {
		word := next()
		n, isInteger := common.Integer(word)
		last := len(lists) - 1
		if isInteger && last >= 0 {
			lists[last] = append(lists[last], n)
			continue
		}
		heads = append(heads, word)
		lists = append(lists, nil)
	}
	return heads, lists
}
