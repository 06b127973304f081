package common

// Mapped returns the results of f for the elements of a list.
func Mapped[A, B any](list []A, f func(A) B) []B {
	out := make([]B, len(list))
	for i, x := range list {
		out[i] = f(x)
	}
	return out
}

// Filtered returns the elements of a list that are kept.
func Filtered[T any](list []T, keep func(T) bool) []T {
	var out []T
	for _, x := range list {
		if keep(x) {
			out = append(out, x)
		}
	}
	return out
}
