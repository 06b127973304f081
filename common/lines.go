package common

import (
	"strings"

	"woofer/api"
)

// The text of a list of lines.
const (
	feed  = "\n" // ends a line
	blank = " "  // between the words of a line
)

// ReadLines reads the lines of a text one after the other, as long as they are right: each has a line feed at its end and
// no blank before it, and read, which is called with the index of the line, takes all of its words and reports that they
// are right. It returns the number of lines that were right, and whether these are all lines.
func ReadLines(text string, read func(i int, next func() string) bool) (int, bool) {
	list := lines(text)
	for i, line := range list {
		line, ended := strings.CutSuffix(line, feed)
		words := Split(line, blank)
		// To read, the empty word behind a blank at the end would look like the end of the line.
		if !ended || !read(i, words.Next) || !words.Ended() || strings.HasSuffix(line, blank) {
			return i, false
		}
	}
	return len(list), true
}

// lines splits a text behind each line feed. What stands behind the last one is a line, too, if it is not empty.
func lines(text string) []string {
	list := strings.SplitAfter(text, feed)
	last := len(list) - 1
	if list[last] == "" {
		return list[:last]
	}
	return list
}

// Line returns the line of words.
func Line(words ...string) string {
	return strings.Join(words, blank) + feed
}

// ParseList returns the list of a text with a line for each element, and 0, or an error and its line: ErrLong and 0 for a
// text with too many bytes; ErrSyntax for the first line whose words read does not take; the error of check for the list,
// and the number of lines.
func ParseList[T any](text string, most int, read func(next func() string) (T, bool), check func(list []T) api.Errno) ([]T, int, api.Errno) {
	if len(text) > most {
		return nil, 0, api.ErrLong
	}
	var list []T
	count, ok := ReadLines(text, func(_ int, next func() string) bool {
		x, ok := read(next)
		list = append(list, x)
		return ok
	})
	if !ok {
		return nil, count, api.ErrSyntax
	}
	if e := check(list); e != api.OK {
		return nil, count, e
	}
	return list, 0, api.OK
}
