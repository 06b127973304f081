package line_test

import (
	"testing"

	"woofer/api"
	"woofer/line"
)

// wrongBelow are integers that no differences are below, or that are too great.
var wrongBelow = append([]int{0, -1, 2*line.MaxValue + 2}, wrong...)

// someBelow returns values that differences may be below: those at a difference of units, and 1 beside it.
func someBelow(l []unit) []int {
	all := list(1, 2*line.MaxValue+1)
	for i := range l {
		for k := range i {
			for x := max(gap(l[i], l[k])-1, 1); x <= gap(l[i], l[k])+1; x++ {
				all = append(all, x)
			}
		}
	}
	return all
}

// P9.4: Prove of the chapter's example, and of others.
func TestProve(t *testing.T) {
	const most = 2*line.MaxValue + 1
	on := func(values ...int) []unit { return numbered(len(values), func(i int) []int { return list(values[i]) }) }
	turned := star(5)
	turned[0], turned[2], turned[3], turned[5] = turned[2], turned[0], turned[5], turned[3]
	for _, x := range []struct {
		l     []unit
		below int
		set   []int
		found bool
	}{
		{exampleU(), 18, nil, true},
		{exampleU(), 19, nil, false},
		{exampleU(), 1, nil, true},
		{exampleU(), 6, nil, true},
		{exampleU(), most, nil, false},
		{nil, 1, nil, false},
		{nil, most, nil, false},
		{exampleU()[:1], 1, nil, true},
		{exampleU()[:3], most, nil, true},
		{on(0, 0, 0, 0, 0, 0, 0), 1, nil, true},
		{on(0, 0, 0, 0, 0, 0, 0, 0), 1, nil, false},
		{on(line.MaxValue, -line.MaxValue), most - 1, nil, true},
		{on(line.MaxValue, -line.MaxValue), most, nil, false},
		// Seven units are joined with the first one alone.
		{star(7), 11, list(0), true},
		{star(7), 10, nil, true},
		{star(7), 21, nil, false},
		{turned, 11, list(2), true},
		// Two units hold six others together, in pairs that are not joined.
		{crown(6, 0, 1), 11, list(0, 1), true},
		{crown(6, 3, 6), 11, list(3, 6), true},
		{crown(6, 6, 7), 11, list(6, 7), true},
		// 0 and 1 are joined, 1 and 2, and 1 and 3: the unit 1 is in the middle.
		{on(0, 10, 20, 11), 10, nil, true},
		{list(measured("a", -10, 0), measured("b", 0, 0), measured("c", 10, 0), measured("d", 0, 10)), 11, nil, false},
		{list(measured("a", -10, 9), measured("b", 0, 0), measured("c", 10, 9), measured("d", 0, -10)), 11, list(1), true},
	} {
		set, e := line.Prove(x.l, x.below)
		if !x.found {
			fails[[]int](t, "Prove", api.ErrNone)(set, e)
			continue
		}
		want(t, "Prove", x.set)(set, e)
		same(t, "CheckProof", line.CheckProof(x.l, x.below, x.set), api.OK)
	}
}

// crown returns n units with differences of 20 and, at the places a and b, two more ones with differences of 10 to these.
func crown(n, a, b int) []unit {
	count := 0
	return numbered(n+2, func(i int) []int {
		if i == a || i == b {
			return make([]int, n)
		}
		values := repeated(-10, n)
		values[count] = 10
		count++
		return values
	})
}

// P9.4, P10: Prove against all sets, and against the best pairing.
func TestProveOfAll(t *testing.T) {
	sizes := map[int]int{}
	for _, l := range someUnits() {
		for _, below := range someBelow(l) {
			set, found := proofOf(l, below)
			if !found {
				fails[[]int](t, "Prove", api.ErrNone)(line.Prove(l, below))
				continue
			}
			want(t, "Prove", set)(line.Prove(l, below))
			sizes[len(set)]++
		}
	}
	same(t, "enough sets of different sizes", min(sizes[0], sizes[1]) > 50 && sizes[2] > 0, true)
}

// P9.4: the errors of Prove: of the units, of too many ones, then of the value.
func TestProveErrors(t *testing.T) {
	for _, x := range wrongLists() {
		fails[[]int](t, "Prove", x.e)(line.Prove(x.l, 1))
		fails[[]int](t, "Prove", x.e)(line.Prove(x.l, 0))
	}
	many := numbered(line.MaxUnits, func(i int) []int { return list(i) })
	for n := api.MaxExact + 1; n <= line.MaxUnits; n++ {
		fails[[]int](t, "Prove", api.ErrLimit)(line.Prove(many[:n], 1))
		fails[[]int](t, "Prove", api.ErrLimit)(line.Prove(many[:n], 0))
	}
	for _, below := range wrongBelow {
		fails[[]int](t, "Prove", api.ErrRange)(line.Prove(exampleU(), below))
		fails[[]int](t, "Prove", api.ErrRange)(line.Prove(exampleU()[:3], below))
		fails[[]int](t, "Prove", api.ErrRange)(line.Prove(nil, below))
	}
}

// checked returns the result of CheckProof that a set has if it has no error of its own.
func checked(isProof bool) api.Errno {
	if isProof {
		return api.OK
	}
	return api.ErrProof
}

// P9.4: CheckProof of all sets, of the chapter's example and of others.
func TestCheckProof(t *testing.T) {
	u := exampleU()
	same(t, "CheckProof", line.CheckProof(u, 18, nil), api.OK)
	same(t, "CheckProof", line.CheckProof(u, 19, nil), api.ErrProof)
	same(t, "CheckProof", line.CheckProof(nil, 19, nil), api.ErrProof)
	same(t, "CheckProof", line.CheckProof(u[:3], 2*line.MaxValue+1, nil), api.OK)
	next := random(21)
	count := map[api.Errno]int{}
	for _, l := range someUnits() {
		values := someBelow(l)
		below := values[next(0, len(values)-1)]
		for _, set := range allSets(len(l)) {
			wanted := checked(isProof(l, below, set))
			same(t, "CheckProof", line.CheckProof(l, below, set), wanted)
			count[wanted]++
		}
	}
	same(t, "enough of both sorts", min(count[api.OK], count[api.ErrProof]) > 100, true)
}

// P9.4: CheckProof of more units than Prove takes.
func TestCheckProofOfMany(t *testing.T) {
	next := random(23)
	count := map[api.Errno]int{}
	for range 2000 {
		l := drawnUnits(next, next(9, line.MaxUnits), next(1, 3), 40)
		below := next(1, 40)
		var set []int
		for i := range l {
			if next(0, 7) == 0 {
				set = append(set, i)
			}
		}
		wanted := checked(isProof(l, below, set))
		same(t, "CheckProof", line.CheckProof(l, below, set), wanted)
		count[wanted]++
	}
	same(t, "enough of both sorts", min(count[api.OK], count[api.ErrProof]) > 100, true)
	// No two units are joined: each one that is not in the set is an odd part.
	l := numbered(line.MaxUnits, func(i int) []int { return list(10 * i) })
	all := allOf(line.MaxUnits)
	for n := range line.MaxUnits + 1 {
		same(t, "CheckProof", line.CheckProof(l, 10, all[:n]), checked(n < line.MaxUnits/2))
		same(t, "CheckProof", line.CheckProof(l, 10, all[n:]), checked(n > line.MaxUnits/2))
	}
	// Each one is joined with the next one, so that those behind the set are one part.
	same(t, "CheckProof", line.CheckProof(l, 11, all[:1]), api.ErrProof)
	same(t, "CheckProof", line.CheckProof(l, 11, all[:2]), api.ErrProof)
	same(t, "CheckProof", line.CheckProof(l[:63], 11, nil), api.OK)
}

// allOf returns the indices of n units.
func allOf(n int) []int {
	l := make([]int, n)
	for i := range l {
		l[i] = i
	}
	return l
}

// P9.4: the errors of CheckProof: of the units, the value, and of the first index that has an error.
func TestCheckProofErrors(t *testing.T) {
	for _, x := range wrongLists() {
		for _, set := range [][]int{nil, list(0), list(-1), list(9, 9)} {
			same(t, "CheckProof", line.CheckProof(x.l, 1, set), x.e)
			same(t, "CheckProof", line.CheckProof(x.l, 0, set), x.e)
		}
	}
	for _, below := range wrongBelow {
		for _, set := range [][]int{nil, list(0), list(-1), list(1, 0)} {
			same(t, "CheckProof", line.CheckProof(exampleU(), below, set), api.ErrRange)
		}
	}
	for _, x := range []struct {
		set []int
		e   api.Errno
	}{
		{list(-1), api.ErrUnknown}, {list(4), api.ErrUnknown}, {list(0, 4), api.ErrUnknown}, {list(0, 1, 2, 3, 4), api.ErrUnknown}, {list(0, 1, 2, 3, 3), api.ErrOrder},
		{list(0, 0), api.ErrOrder}, {list(1, 0), api.ErrOrder}, {list(1, 3, 2), api.ErrOrder}, {list(1, 0, 4), api.ErrOrder}, {list(1, 4, 0), api.ErrUnknown},
		{list(3, -1), api.ErrUnknown}, {repeated(0, 99), api.ErrOrder}, {repeated(4, 99), api.ErrUnknown},
	} {
		same(t, "CheckProof", line.CheckProof(exampleU(), 1, x.set), x.e)
		same(t, "CheckProof", line.CheckProof(exampleU(), 2*line.MaxValue+1, x.set), x.e)
	}
	same(t, "CheckProof", line.CheckProof(nil, 1, list(0)), api.ErrUnknown)
	for _, n := range wrong {
		same(t, "CheckProof", line.CheckProof(exampleU(), 1, list(n)), api.ErrUnknown)
		same(t, "CheckProof", line.CheckProof(exampleU(), 1, list(0, n)), api.ErrUnknown)
	}
}
