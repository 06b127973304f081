package common

import (
	"strconv"
	"strings"

	"woofer/api"
)

// Words has the words of a text that are not yet taken.
type Words struct {
	list []string
}

// Split returns the words of a text between the separators.
func Split(text, separator string) *Words {
	return &Words{list: strings.Split(text, separator)}
}

// Next takes the next word, or the empty string, which is no word, behind the last one.
func (w *Words) Next() string {
	if w.Ended() {
		return ""
	}
	word := w.list[0]
	w.list = w.list[1:]
	return word
}

// Ended reports whether all words are taken.
func (w *Words) Ended() bool {
	return len(w.list) == 0
}

// Integer returns the integer of a word, and whether the word is one.
func Integer(word string) (int, bool) {
	n, err := strconv.Atoi(word)
	// Leading zeros, a plus sign and -0 do not come back; more than 9 digits are beyond MaxNumber.
	if err != nil || strconv.Itoa(n) != word || !Within(n, -api.MaxNumber, api.MaxNumber) {
		return 0, false
	}
	return n, true
}

// Natural returns the integer of a word without a sign, and whether the word is one.
func Natural(word string) (int, bool) {
	n, ok := Integer(word)
	// An integer has a sign only if it is below 0.
	if !ok || n < 0 {
		return 0, false
	}
	return n, true
}
