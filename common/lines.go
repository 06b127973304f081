package common

import "strings"

// The text of a list of lines.
const (
	feed  = "\n" // ends a line
	blank = " "  // between the words of a line
)

// ReadLines reads the lines of a text one after the other, as long as they are right: each has a line feed at its end,
// and read, which is called with the index of the line, takes all of its words and reports that they are right. It
// returns the number of lines that were right, and whether these are all lines.
func ReadLines(text string, read func(i int, next func() string) bool) (int, bool) {
	list := lines(text)
	for i, line := range list {
		line, ended := strings.CutSuffix(line, feed)
		words := Split(line, blank)
		if !ended || !read(i, words.Next) || !words.Ended() {
			return i, false
		}
	}
	return len(list), true
}

// lines splits a text behind each line feed. What stands behind the last one is a line, too, if it is not empty.
func lines(text string) []string {
	list := strings.SplitAfter(text, feed)
	last := len(list) - 1
	if list[last] == "" {
		return list[:last]
	}
	return list
}

// Line returns the line of words.
func Line(words ...string) string {
	return strings.Join(words, blank) + feed
}
