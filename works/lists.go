package works

import (
	"slices"

	"woofer/common"
)

// keyed is what a list has at most once with a key.
type keyed interface {
	key() string
}

func (x Lot) key() string     { return x.Name }
func (x Need) key() string    { return x.Kind }
func (x Test) key() string    { return x.Name }
func (x Product) key() string { return x.Name }
func (x Use) key() string     { return x.Lot }
func (x Unit) key() string    { return x.Name }

// keysOf returns the keys of a list.
func keysOf[T keyed](list []T) []string {
	return common.Mapped(list, T.key)
}

// has reports whether a list has an element with a key.
func has[T keyed](list []T, key string) bool {
	return slices.ContainsFunc(list, func(x T) bool { return x.key() == key })
}

// find returns the element with a key, or the zero value if there is none.
func find[T keyed](list []T, key string) T {
	for _, x := range list {
		if x.key() == key {
			return x
		}
	}
	var none T
	return none
}

// with returns a copy of a list with one more element.
func with[T any](list []T, x T) []T {
	return append(slices.Clip(list), x)
}

// changed returns a copy of a list in which the element with a key is changed.
func changed[T keyed](list []T, key string, change func(x T) T) []T {
	out := slices.Clone(list)
	for i, x := range out {
		if x.key() == key {
			out[i] = change(x)
		}
	}
	return out
}

// put returns a copy of a list with an element in the place of the one that has its key, or behind all others.
func put[T keyed](list []T, x T) []T {
	if !has(list, x.key()) {
		return with(list, x)
	}
	return changed(list, x.key(), func(T) T { return x })
}
