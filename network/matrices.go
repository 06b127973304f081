package network

import (
	"iter"

	"woofer/api"
	"woofer/common"
)

// The indices of the entries of a matrix.
const (
	entryA = iota
	entryB
	entryC
	entryD
)

// numbers are what ladders are computed in: complex integers at a frequency, or polynomials.
type numbers[T any] struct {
	one   T // the zero value is 0
	value func(x Element) T
	plus  func(a, b T) T
	times func(a, b T) T
}

// effect is what an element of a kind does to a ladder: its matrix, and its factor of the divisor.
type effect[T any] struct {
	matrix func(v T) [4]T
	factor func(v T) T
}

// effects returns the effect of each kind.
func (n numbers[T]) effects() map[string]effect[T] {
	var zero T
	one := n.one
	itself := func(v T) T { return v }
	unit := func(T) T { return one }
	return map[string]effect[T]{
		block:  {matrix: func(v T) [4]T { return [4]T{v, one, zero, v} }, factor: itself},
		series: {matrix: func(v T) [4]T { return [4]T{one, v, zero, one} }, factor: unit},
		shunt:  {matrix: func(v T) [4]T { return [4]T{one, zero, v, one} }, factor: unit},
		trap:   {matrix: func(v T) [4]T { return [4]T{v, zero, one, v} }, factor: itself},
	}
}

// elements visits the elements of a ladder, each with the effect of its kind and its value.
func (n numbers[T]) elements(l []Element) iter.Seq2[effect[T], T] {
	effects := n.effects()
	return func(yield func(effect[T], T) bool) {
		for _, x := range l {
			if !yield(effects[x.Kind], n.value(x)) {
				return
			}
		}
	}
}

// chain returns the chain matrix and the divisor of a ladder without errors.
func (n numbers[T]) chain(l []Element) ([4]T, T) {
	var zero T
	matrix, divisor := [4]T{n.one, zero, zero, n.one}, n.one
	for kind, v := range n.elements(l) {
		matrix = n.product(matrix, kind.matrix(v))
		divisor = n.times(divisor, kind.factor(v))
	}
	return matrix, divisor
}

// product returns the product of two matrices.
func (n numbers[T]) product(a, b [4]T) [4]T {
	entry := func(row, column int) T {
		return n.plus(n.times(a[2*row], b[column]), n.times(a[2*row+1], b[2+column]))
	}
	return [4]T{entry(0, 0), entry(0, 1), entry(1, 0), entry(1, 1)}
}

// integers returns the complex integers at a frequency.
func integers(w int) numbers[api.Gauss] {
	return numbers[api.Gauss]{
		one:   api.Gauss{Re: 1},
		value: func(x Element) api.Gauss { return api.Gauss{Re: x.A, Im: w * x.B} },
		plus:  common.Plus,
		times: common.Times,
	}
}

// chained returns the chain matrix and the divisor of a ladder at a frequency.
func chained(l []Element, w int) (Matrix, api.Gauss, api.Errno) {
	if e := common.First(CheckLadder(l), checkFrequency(w)); e != api.OK {
		return Matrix{}, api.Gauss{}, e
	}
	matrix, divisor := integers(w).chain(l)
	return matrix, divisor, api.OK
}

// Chain returns the chain matrix of a ladder at a frequency.
func Chain(l []Element, w int) (Matrix, api.Errno) {
	m, _, e := chained(l, w)
	return m, e
}

// Divisor returns the divisor of the chain matrix of a ladder at a frequency.
func Divisor(l []Element, w int) (api.Gauss, api.Errno) {
	_, d, e := chained(l, w)
	return d, e
}

// Product returns the product of two chain matrices.
func Product(a, b Matrix) (Matrix, api.Errno) {
	if e := common.First(checkMatrix(a), checkMatrix(b)); e != api.OK {
		return Matrix{}, e
	}
	// A product does not depend on the frequency.
	return integers(1).product(a, b), api.OK
}

// Determinant returns the determinant of a chain matrix.
func Determinant(m Matrix) (api.Gauss, api.Errno) {
	if e := checkMatrix(m); e != api.OK {
		return api.Gauss{}, e
	}
	ad, bc := common.Times(m[entryA], m[entryD]), common.Times(m[entryB], m[entryC])
	return common.Minus(ad, bc), api.OK
}
