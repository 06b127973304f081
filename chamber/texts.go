package chamber

import (
	"strconv"
	"strings"

	"woofer/api"
	"woofer/common"
)

// between separates the integers of a text.
const between = " "

// Print returns the text of a response.
func Print(h []int) (string, api.Errno) {
	if e := CheckResponse(h); e != api.OK {
		return "", e
	}
	return strings.Join(common.Mapped(h, strconv.Itoa), between), api.OK
}

// Parse returns the response of a text.
func Parse(s string) ([]int, api.Errno) {
	if len(s) > api.MaxText {
		return nil, api.ErrLong
	}
	h, ok := readIntegers(s)
	if !ok {
		return nil, api.ErrSyntax
	}
	if e := CheckResponse(h); e != api.OK {
		return nil, e
	}
	return h, api.OK
}

// readIntegers returns the integers of a text, and whether all its words are integers.
func readIntegers(s string) ([]int, bool) {
	if s == "" {
		return nil, true // Split would find an empty word
	}
	words := common.Split(s, between)
	next := words.Next
	var list []int
	for !words.Ended() {
		n, ok := common.Integer(next())
		if !ok {
			return nil, false
		}
		list = append(list, n)
	}
	return list, true
}
