package driver

import (
	"strconv"

	"woofer/api"
	"woofer/common"
)

// The text of a driver.
const (
	word    = "driver"
	between = " " // words
)

// Print returns the text of a driver.
func Print(d Driver) (string, api.Errno) {
	if e := CheckDriver(d); e != api.OK {
		return "", e
	}
	text := word
	for _, n := range numbersOf(d) {
		text += between + strconv.Itoa(n)
	}
	return text, api.OK
}

// Parse returns the driver with a text.
func Parse(s string) (Driver, api.Errno) {
	if len(s) > api.MaxText {
		return Driver{}, api.ErrLong
	}
	words := common.Split(s, between)
	n, ok := readNumbers(words.Next)
	if !ok || !words.Ended() {
		return Driver{}, api.ErrSyntax
	}
	d := n.driver()
	if e := CheckDriver(d); e != api.OK {
		return Driver{}, e
	}
	return d, api.OK
}

// readNumbers reads the words of a text, and reports whether they have their form.
func readNumbers(next func() string) (numbers, bool) {
	ok := next() == word
	var n numbers
	for i := range n {
		x, isNumber := common.Natural(next())
		n[i] = x
		ok = ok && isNumber
	}
	return n, ok
}
