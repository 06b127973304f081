package common

import "strings"

// Words has the words of a text that are not yet taken.
type Words struct {
	list []string
}

// Split returns the words of a text between the separators.
func Split(text, separator string) *Words {
	return &Words{list: strings.Split(text, separator)}
}

// Next takes the next word, or the empty string, which is no word, behind the last one.
func (w *Words) Next() string {
	if w.Ended() {
		return ""
	}
	word := w.list[0]
	w.list = w.list[1:]
	return word
}

// Ended reports whether all words are taken.
func (w *Words) Ended() bool {
	return len(w.list) == 0
}

// maxDigits is the number of digits of MaxNumber.
const maxDigits = 9

// Natural returns the integer of a word without a sign, and whether the word is one.
func Natural(word string) (int, bool) {
	if !Within(len(word), 1, maxDigits) || len(word) > 1 && word[0] == '0' {
		return 0, false
	}
	n := 0
	for _, c := range word {
		if !Within(c, '0', '9') {
			return 0, false
		}
		n = 10*n + int(c-'0')
	}
	return n, true
}

// Integer returns the integer of a word, and whether the word is one.
func Integer(word string) (int, bool) {
	digits, hasSign := strings.CutPrefix(word, "-")
	n, ok := Natural(digits)
	if !hasSign {
		return n, ok
	}
	// -0 is no integer.
	return -n, ok && n != 0
}
