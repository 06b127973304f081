package line_test

import (
	"fmt"
	"math"
	"slices"
	"testing"

	"woofer/api"
	"woofer/line"
)

// P9.6: golden units pass the mask that was learned from them, with any margin, and have a grade by it.
func TestGoldenUnitsPass(t *testing.T) {
	next := random(31)
	for range 300 {
		loud := list(1, 20, line.MaxValue)[next(0, 2)]
		golden := drawnUnits(next, next(1, 12), next(1, line.MaxTests), loud)
		m := of[mask](t)(line.Learn(golden, next(0, loud)))
		same(t, "CheckMask", line.CheckMask(m), api.OK)
		for _, u := range golden {
			want(t, "Failures", []int(nil))(line.Failures(m, u))
			classes := next(1, line.MaxClasses)
			grade := of[int](t)(line.Grade(m, u, classes))
			same(t, "a grade", 0 <= grade && grade < classes, true)
		}
		want(t, "Yield", ratio(1, 1))(line.Yield(m, golden))
	}
}

// isWithin reports whether no limit of a mask is beyond that of another one.
func isWithin(m, wide mask) bool {
	for i := range m.Least {
		if m.Least[i] < wide.Least[i] || m.Most[i] > wide.Most[i] {
			return false
		}
	}
	return true
}

// P9.6: fewer golden units never learn a wider mask.
func TestFewerGoldenUnits(t *testing.T) {
	next := random(33)
	for range 300 {
		loud := list(1, 20, line.MaxValue)[next(0, 2)]
		golden := drawnUnits(next, next(2, 12), next(1, line.MaxTests), loud)
		margin := next(0, loud)
		fewer := slices.Delete(slices.Clone(golden), next(0, len(golden)-1), len(golden))
		fewer = append(fewer, golden[len(golden)-1])
		m, wide := of[mask](t)(line.Learn(fewer, margin)), of[mask](t)(line.Learn(golden, margin))
		same(t, "no wider mask", isWithin(m, wide), true)
		wider := of[mask](t)(line.Learn(golden, min(margin+next(0, 9), line.MaxValue)))
		same(t, "no wider mask with a lesser margin", isWithin(wide, wider), true)
	}
}

// P9.1: a unit that passes a narrowed mask passes the mask; each narrowed limit is nearer by the guard.
func TestNarrowedMasks(t *testing.T) {
	next := random(35)
	count := map[bool]int{}
	for range 500 {
		golden := drawnUnits(next, next(2, 5), next(1, 4), 50)
		m := of[mask](t)(line.Learn(golden, 0))
		guard := next(0, 30)
		isWide := true
		for i := range m.Least {
			isWide = isWide && m.Most[i]-m.Least[i] >= 2*guard
		}
		count[isWide]++
		if !isWide {
			fails[mask](t, "Narrow", api.ErrInfeasible)(line.Narrow(m, guard))
			continue
		}
		narrow := of[mask](t)(line.Narrow(m, guard))
		same(t, "within the mask", isWithin(narrow, m), true)
		middle := make([]unit, 2)
		for i := range middle {
			middle[i] = measured("m"+fmt.Sprint(i), slices.Clone(list(narrow.Least, narrow.Most)[i])...)
		}
		want(t, "Learn", m)(line.Learn(middle, guard))
	}
	same(t, "enough of both sorts", min(count[true], count[false]) > 50, true)
}

// isAtMost reports whether a ratio is at most another one; both are at most 1.
func isAtMost(x, y api.Ratio) bool {
	return x.Num*y.Den <= y.Num*x.Den
}

// P9.6, P10: acceptance never rises with the defects, and never falls with the acceptance number.
func TestAcceptanceIsMonotonous(t *testing.T) {
	for lot := 1; lot <= line.MaxLot; lot++ {
		for _, p := range plansOf(lot) {
			before := ratio(1, 1)
			want(t, "Acceptance without defects", before)(line.Acceptance(p, 0))
			for defects := range lot + 1 {
				x := of[api.Ratio](t)(line.Acceptance(p, defects))
				same(t, "no rise with the defects", isAtMost(x, before), true)
				before = x
				if p.Accept+1 < p.Sample {
					more := of[api.Ratio](t)(line.Acceptance(planOf(lot, p.Sample, p.Accept+1), defects))
					same(t, "no fall with the acceptance number", isAtMost(x, more), true)
				}
			}
		}
	}
}

// P9.6: no schedule ends before the bound, and none before the best one.
func TestNoScheduleIsEarlier(t *testing.T) {
	next := random(37)
	atBound := map[bool]int{}
	for range 500 {
		work := draw(next, next(0, api.MaxExact), 1, list(2, 9, line.MaxValue)[next(0, 2)])
		benches := next(1, line.MaxBenches)
		bound := of[int](t)(line.Bound(work, benches))
		schedule, end, _ := line.Schedule(work, benches)
		want(t, "CheckSchedule", end)(line.CheckSchedule(work, benches, schedule))
		same(t, "the best one is not before the bound", bound <= end, true)
		atBound[bound == end]++
		for range 20 {
			other := of[int](t)(line.CheckSchedule(work, benches, draw(next, len(work), 0, benches-1)))
			same(t, "none is before the best one", end <= other, true)
		}
		slices.Sort(work)
		_, sorted, _ := line.Schedule(work, benches)
		same(t, "the end in another order", sorted, end)
		want(t, "Bound in another order", bound)(line.Bound(work, benches))
	}
	same(t, "enough of both sorts", min(atBound[true], atBound[false]) > 10, true)
}

// P9.6, P10: either there is a pairing with a worst difference below a value, or a set proves that there is none, and never
// both.
func TestPairedOrProved(t *testing.T) {
	count := map[bool]int{}
	for _, l := range someUnits() {
		pairing, worst, e := line.Pairs(l)
		if e == api.OK {
			want(t, "CheckPairs", worst)(line.CheckPairs(l, pairing))
		}
		for _, below := range someBelow(l) {
			isPaired := e == api.OK && worst < below
			count[isPaired]++
			set, eOfSet := line.Prove(l, below)
			same(t, "Prove", eOfSet == api.ErrNone, isPaired)
			if isPaired {
				for _, other := range allSets(len(l)) {
					same(t, "no set proves it", line.CheckProof(l, below, other), api.ErrProof)
				}
				continue
			}
			same(t, "CheckProof", []api.Errno{eOfSet, line.CheckProof(l, below, set)}, []api.Errno{api.OK, api.OK})
		}
	}
	same(t, "enough of both sorts", min(count[true], count[false]) > 500, true)
}

// P9.6: the order of the units changes no worst difference, and the one of the proofs no number of units.
func TestOrderOfUnits(t *testing.T) {
	next := random(39)
	for _, l := range someUnits() {
		var turned []unit
		for i, u := range l {
			turned = slices.Insert(turned, next(0, i), u)
		}
		_, worst, e := line.Pairs(l)
		_, other, eOfOther := line.Pairs(turned)
		same(t, "Pairs", []any{other, eOfOther}, []any{worst, e})
		for _, below := range someBelow(l) {
			set, e := line.Prove(l, below)
			other, eOfOther := line.Prove(turned, below)
			same(t, "Prove", []any{len(other), eOfOther}, []any{len(set), e})
		}
	}
}

// P9.6: units are parsed as they were printed.
func TestUnitsComeBack(t *testing.T) {
	next := random(41)
	all := someUnits()
	for range 50 {
		all = append(all, drawnUnits(next, next(0, line.MaxUnits), next(1, line.MaxTests), list(9, line.MaxValue)[next(0, 1)]))
	}
	for _, l := range all {
		parses(t, of[string](t)(line.Print(l)), l)
	}
}

// P9.1 to P9.5, the rule Memory: arguments are not modified, and results share no memory with them or with each other.
func TestMemory(t *testing.T) {
	roomy := func(l ...int) []int { return append(make([]int, 0, 20), l...) }
	l := list(measured("a", roomy(10, 20)...), measured("b", roomy(12, 20)...), measured("c", roomy(11, 26)...), measured("d", roomy(30, 20)...))
	m := mask{Least: roomy(9, 19), Most: roomy(13, 21)}
	work, schedule, set := roomy(2, 3, 1, 5), roomy(1, 1, 0, 0), roomy(0, 1)
	paired := append(make(pairs, 0, 20), [2]int{0, 2}, [2]int{1, 3})
	failed := append(make([]bool, 0, 20), false, true)
	results := func() (text string, change func()) {
		golden := of[mask](t)(line.Learn(l, 0))
		alone := of[mask](t)(line.Learn(l[:1], 0))
		narrow := of[mask](t)(line.Narrow(m, 0))
		failures := of[[]int](t)(line.Failures(m, measured("x", roomy(0, 0)...)))
		best, _, _ := line.Schedule(work, 2)
		pairing, _, _ := line.Pairs(l)
		proof := of[[]int](t)(line.Prove(star(7), 11))
		parsed, _, _ := line.Parse("a 10 20\nb 12 20\n")
		line.CheckUnits(l)
		line.CheckMask(m)
		line.Grade(m, l[0], 9)
		line.Yield(m, l)
		line.Decide(planOf(9, 5, 1), failed)
		line.CheckSchedule(work, 2, schedule)
		line.Bound(work, 2)
		line.Difference(l[0], l[1])
		line.CheckPairs(l, paired)
		line.CheckProof(l, 5, set)
		line.Typical(l)
		line.Print(l)
		return fmt.Sprint(golden, alone, narrow, failures, best, pairing, proof, parsed), func() {
			lists := list(golden.Least, golden.Most, alone.Least, alone.Most, narrow.Least, narrow.Most, failures, best, proof, parsed[0].Values, parsed[1].Values)
			for _, x := range lists {
				all := x[:cap(x)]
				same(t, "results do not share memory", slices.Contains(all, 77), false)
				for i := range all {
					all[i] = 77
				}
			}
			for i := range pairing[:cap(pairing)] {
				pairing[:cap(pairing)][i] = [2]int{77, 77}
			}
		}
	}
	arguments := func() string {
		text := fmt.Sprint(l, m.Least[:20], m.Most[:20], work[:20], schedule[:20], set[:20], paired[:20], failed[:20])
		for _, u := range l {
			text += fmt.Sprint(u.Values[:20])
		}
		return text
	}
	before := arguments()
	wanted, change := results()
	same(t, "arguments", arguments(), before)
	change()
	same(t, "arguments behind a change of results", arguments(), before)
	text, _ := results()
	same(t, "results behind it", text, wanted)
}

// P1: no function panics, whatever its arguments are.
func TestNothingPanics(t *testing.T) {
	numbers := []int{math.MinInt, math.MinInt32, -line.MaxValue, -1, 0, 1, 2, 4, 8, 16, 30, 64, line.MaxValue, 2*line.MaxValue + 1, math.MaxInt32, math.MaxInt}
	for _, a := range numbers {
		for _, b := range numbers {
			lists := list(nil, list(unit{}), exampleU(), list(measured("a", a), measured("b", b)), list(measured("a", a), measured("b", 0, b), measured("a")),
				repeated(measured("a", a, b), 9), numbered(10, func(i int) []int { return list(a, b, i) }))
			masks := list(mask{}, exampleM(), between(a, b), mask{Least: list(a)}, mask{Most: list(a)}, mask{Least: list(a, b), Most: list(b)}, mask{Least: repeated(a, 17), Most: list(b)})
			for _, l := range lists {
				line.CheckUnits(l)
				line.Learn(l, a)
				line.Pairs(l)
				line.CheckPairs(l, pairs{{a, b}, {b, a}})
				line.CheckPairs(l, pairs{{a, b}})
				line.CheckPairs(l, nil)
				line.Prove(l, a)
				line.CheckProof(l, a, list(a, b))
				line.CheckProof(l, 5, list(a, b))
				line.Typical(l)
				line.Print(l)
				for _, m := range masks {
					line.CheckMask(m)
					line.Narrow(m, a)
					line.Yield(m, l)
					for _, u := range append(l, measured("x", a, b), measured("", a)) {
						line.Failures(m, u)
						line.Grade(m, u, b)
						line.Difference(u, measured("y", b))
					}
				}
			}
			for _, p := range list(planOf(a, b, a), planOf(30, a, b), planOf(a, a, b), planOf(30, 15, a)) {
				line.CheckPlan(p)
				line.Acceptance(p, a)
				line.Risks(p, a, b)
				line.Decide(p, nil)
				line.Decide(p, repeated(true, 31))
			}
			line.Smallest(a, b, 2, [2]api.Ratio{{Num: a, Den: b}, {Num: b, Den: a}})
			line.Smallest(4, a, b, [2]api.Ratio{{Num: 1, Den: 2}, {Num: b, Den: a}})
			line.Smallest(4, 1, 2, [2]api.Ratio{{Num: a, Den: b}, {Num: 1, Den: 1}})
			for _, work := range [][]int{nil, list(a), list(a, b), list(1, 2, b), repeated(a, 9)} {
				line.Schedule(work, b)
				line.Bound(work, b)
				line.CheckSchedule(work, b, list(a, b))
				line.CheckSchedule(work, 4, work)
			}
		}
	}
	line.Parse("\xff \x00 1 2 3 4\n\n")
	line.Parse("\n \n")
}
