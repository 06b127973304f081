package array

import (
	"strconv"
	"strings"

	"woofer/api"
	"woofer/common"
)

// keyword begins each line.
const keyword = "source"

// numbersOf returns the numbers of a source, in the order of its line.
func numbersOf(s *Source) []*int {
	return []*int{&s.X, &s.Y, &s.Gain, &s.Phase}
}

// Print returns the text of sources.
func Print(l []Source) (string, api.Errno) {
	if e := CheckSources(l); e != api.OK {
		return "", e
	}
	return strings.Join(common.Mapped(l, lineOf), ""), api.OK
}

// lineOf returns the line of a source.
func lineOf(s Source) string {
	words := []string{keyword}
	for _, n := range numbersOf(&s) {
		words = append(words, strconv.Itoa(*n))
	}
	return common.Line(words...)
}

// Parse returns the sources with a text, or the index of the first line that is wrong.
func Parse(s string) ([]Source, int, api.Errno) {
	return common.ParseList(s, api.MaxText, readSource, CheckSources)
}

// readSource reads the words of a line, and reports whether they have their form.
func readSource(next func() string) (Source, bool) {
	var s Source
	ok := next() == keyword
	for _, n := range numbersOf(&s) {
		x, isInteger := common.Integer(next())
		*n = x
		ok = ok && isInteger
	}
	return s, ok
}
