// Package common has what several layers use: the first of errors, lists, words, complex integers and ratios.
package common

import (
	"cmp"

	"woofer/api"
)

// First returns the first error of a list that is in the order of a chapter, or OK.
func First(list ...api.Errno) api.Errno {
	for _, e := range list {
		if e != api.OK {
			return e
		}
	}
	return api.OK
}

// When returns e if it applies, else OK.
func When(applies bool, e api.Errno) api.Errno {
	if applies {
		return e
	}
	return api.OK
}

// Within is false for NaN.
func Within[T cmp.Ordered](x, least, most T) bool {
	return least <= x && x <= most
}

// CheckRange returns ErrRange if x is not from least to most, else OK.
func CheckRange[T cmp.Ordered](x, least, most T) api.Errno {
	return When(!Within(x, least, most), api.ErrRange)
}
