package chamber_test

import (
	"math"
	"slices"
	"testing"

	"woofer/api"
	"woofer/chamber"
)

// pattern is an energy for each direction.
type pattern = [chamber.Directions]int

// withEnergies returns directions with these energies: each is that many ones.
func withEnergies(energies pattern) [][]int {
	most := slices.Max(energies[:])
	var l [][]int
	for _, n := range energies {
		l = append(l, slices.Concat(repeated(1, n), make([]int, most-n)))
	}
	return l
}

// exampleD returns the directions of the chapter's example.
func exampleD() [][]int {
	return [][]int{{2, 0}, {1, 0}, {0, -1}, {1, 0}, {0, 0}, {-1, 0}, {0, 0}, {0, 0}}
}

// P7.5: Pattern of the chapter's example, and of others; at the limits, too.
func TestPattern(t *testing.T) {
	want(t, "Pattern", pattern{4, 1, 1, 1, 0, 1, 0, 0})(chamber.Pattern(exampleD()))
	energies := pattern{0, 1, 2, 3, 4, 5, 6, 7}
	want(t, "Pattern", energies)(chamber.Pattern(withEnergies(energies)))
	want(t, "Pattern", pattern{})(chamber.Pattern(make([][]int, 8)))
	most := repeated(repeated(-level, longest), 8)
	want(t, "Pattern", pattern{1 << 48, 1 << 48, 1 << 48, 1 << 48, 1 << 48, 1 << 48, 1 << 48, 1 << 48})(chamber.Pattern(most))
	next := random(41)
	for range 50 {
		l := drawSome(next, 8, list(next(0, 6), longest)[next(0, 1)], list(3, level)[next(0, 1)])
		var wanted pattern
		for angle, h := range l {
			wanted[angle] = int(energy(h).Int64())
		}
		want(t, "Pattern", wanted)(chamber.Pattern(l))
	}
}

// P7.5: Directivity of the chapter's example, and of others; at the limits, too.
func TestDirectivity(t *testing.T) {
	want(t, "Directivity", ratio(4, 1))(chamber.Directivity(exampleD()))
	for _, x := range []struct {
		energies    pattern
		directivity api.Ratio
	}{
		{pattern{1, 0, 0, 0, 0, 0, 0, 0}, ratio(8, 1)},
		{pattern{0, 0, 0, 0, 0, 0, 0, 1}, ratio(0, 1)},
		{pattern{1, 1, 1, 1, 1, 1, 1, 1}, ratio(1, 1)},
		{pattern{3, 0, 0, 0, 4, 0, 0, 0}, ratio(24, 7)},
		{pattern{1, 2, 3, 4, 5, 6, 7, 8}, ratio(2, 9)},
		{pattern{1, 0, 5, 0, 0, 5, 0, 5}, ratio(1, 2)},
	} {
		want(t, "Directivity", x.directivity)(chamber.Directivity(withEnergies(x.energies)))
	}
	most := repeated(repeated(level, longest), 8)
	want(t, "Directivity", ratio(1, 1))(chamber.Directivity(most))
	most[0] = append(list(1), make([]int, longest-1)...)
	want(t, "Directivity", ratio(8, 7<<48+1))(chamber.Directivity(most))
	for n := range 5 {
		fails[api.Ratio](t, "Directivity", api.ErrZero)(chamber.Directivity(repeated(make([]int, n), 8)))
	}
}

// P7.5: Turn of the chapter's example, and by all eighths.
func TestTurn(t *testing.T) {
	turned := of[[][]int](t)(chamber.Turn(exampleD(), 1))
	same(t, "Turn", turned, [][]int{{0, 0}, {2, 0}, {1, 0}, {0, -1}, {1, 0}, {0, 0}, {-1, 0}, {0, 0}})
	want(t, "Pattern of turned directions", pattern{0, 4, 1, 1, 1, 0, 1, 0})(chamber.Pattern(turned))
	next := random(43)
	for length := range 4 {
		l := drawSome(next, 8, length, level)
		twice := append(l, l...)
		for by := range 8 {
			want(t, "Turn", twice[8-by:16-by])(chamber.Turn(l, by))
		}
	}
	most := repeated(repeated(level, longest), 8)
	want(t, "Turn", most)(chamber.Turn(most, 7))
	want(t, "Turn", make([][]int, 8))(chamber.Turn(make([][]int, 8), 7))
}

// P7.5: the errors of directions, in their order, and of numbers of eighths behind them.
func TestWrongDirections(t *testing.T) {
	bad := func(l [][]int, e api.Errno) {
		t.Helper()
		fails[pattern](t, "Pattern", e)(chamber.Pattern(l))
		fails[api.Ratio](t, "Directivity", e)(chamber.Directivity(l))
		for _, by := range []int{-1, 0, 7, 8} {
			fails[[][]int](t, "Turn", e)(chamber.Turn(l, by))
		}
	}
	for _, n := range []int{0, 1, 7, 9, 16, 1000} {
		bad(make([][]int, n), api.ErrShape)
		bad(repeated(list(level+1), n), api.ErrShape)
	}
	for _, x := range wrongGroups(8) {
		bad(x.l, x.e)
	}
	for _, by := range []int{-1, 8, 9, -8, math.MinInt, math.MaxInt} {
		fails[[][]int](t, "Turn", api.ErrRange)(chamber.Turn(exampleD(), by))
		fails[[][]int](t, "Turn", api.ErrRange)(chamber.Turn(make([][]int, 8), by))
	}
}
