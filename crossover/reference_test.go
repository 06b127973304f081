package crossover_test

import (
	"fmt"
	"math/big"

	"woofer/api"
	"woofer/crossover"
	"woofer/network"
)

// valuesOf returns the values of a part: of all elements of its kind those that are near enough.
func valuesOf(p crossover.Part) []network.Element {
	var l []network.Element
	for number := range 81 {
		x := network.Element{Kind: p.Element.Kind, A: number / 9, B: number % 9}
		a, b := x.A-p.Element.A, x.B-p.Element.B
		if a*a <= p.SlackA && b*b <= p.SlackB {
			l = append(l, x)
		}
	}
	return l
}

// laddersOf returns the ladders of a choice: the digits of ascending numbers are the values.
func laddersOf(l []crossover.Part, choice []int) [][]network.Element {
	count := 1
	for _, i := range choice {
		count *= len(valuesOf(l[i]))
	}
	all := make([][]network.Element, count)
	for number := range all {
		ladder := make([]network.Element, len(choice))
		rest := number
		for at := len(choice) - 1; at >= 0; at-- {
			values := valuesOf(l[choice[at]])
			ladder[at] = values[rest%len(values)]
			rest /= len(values)
		}
		all[number] = ladder
	}
	return all
}

// levelOf returns the level of a ladder, and nil at a pole.
func levelOf(ladder []network.Element, w int) *big.Rat {
	m, e := network.Chain(ladder, w)
	d, f := network.Divisor(ladder, w)
	if e != api.OK || f != api.OK {
		panic("no ladder")
	}
	if m[0] == (api.Gauss{}) {
		return nil
	}
	return big.NewRat(int64(d.Re*d.Re+d.Im*d.Im), int64(m[0].Re*m[0].Re+m[0].Im*m[0].Im))
}

func rational(x api.Ratio) *big.Rat {
	return big.NewRat(int64(x.Num), int64(x.Den))
}

// keeps reports whether a ladder keeps a band.
func keeps(ladder []network.Element, b crossover.Band) bool {
	x := levelOf(ladder, b.W)
	return x != nil && x.Cmp(rational(b.Least)) >= 0 && x.Cmp(rational(b.Most)) <= 0
}

// faultsOf returns all faults of a choice, in their order.
func faultsOf(l []crossover.Part, choice []int, c []crossover.Band) []crossover.Fault {
	var faults []crossover.Fault
	for i, b := range c {
		for _, ladder := range laddersOf(l, choice) {
			if !keeps(ladder, b) {
				faults = append(faults, crossover.Fault{Band: i, Ladder: ladder})
			}
		}
	}
	return faults
}

// choicesOf returns the choices of at most n parts that are in stock: the digits of ascending numbers are the indices.
func choicesOf(l []crossover.Part, n int) [][]int {
	var all [][]int
	size := 1
	for count := range n + 1 {
		for number := range size {
			choice := make([]int, count)
			rest := number
			uses := map[int]int{}
			for at := count - 1; at >= 0; at-- {
				choice[at] = rest % len(l)
				uses[rest%len(l)]++
				rest /= len(l)
			}
			isThere := true
			for i, times := range uses {
				isThere = isThere && times <= l[i].Stock
			}
			if isThere {
				all = append(all, choice)
			}
		}
		size *= len(l)
	}
	return all
}

// text returns a ratio of levels as it is printed.
func text(x *big.Rat) string {
	return fmt.Sprintf("{%v %v}", x.Num(), x.Denom())
}
