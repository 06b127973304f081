package line_test

import (
	"math/big"
	"math/bits"
	"slices"
	"testing"

	"woofer/api"
	"woofer/line"
)

// wrongLots are integers that are no lots.
var wrongLots = append([]int{0, -1, line.MaxLot + 1}, wrong...)

// wrongPlans are plans with an error.
func wrongPlans() []plan {
	l := list(plan{}, planOf(1, 0, 0), planOf(1, 2, 0), planOf(1, 1, 1), planOf(1, 1, -1), planOf(4, 5, 0), planOf(4, 4, 4), planOf(4, 2, 2), planOf(30, 31, 0), planOf(30, 30, 30))
	for _, n := range wrongLots {
		l = append(l, planOf(n, 1, 0), planOf(5, n, 0), planOf(n, n, 0), planOf(n, n, n))
	}
	for _, n := range wrong {
		l = append(l, planOf(5, 2, n), planOf(5, n, n))
	}
	return l
}

// plansOf returns all plans for a lot, those with lesser samples first, and then those with lesser acceptance numbers.
func plansOf(lot int) []plan {
	var l []plan
	for i := range lot * lot {
		if p := planOf(lot, i/lot+1, i%lot); p.Accept < p.Sample {
			l = append(l, p)
		}
	}
	return l
}

// P9.2: CheckPlan of plans with and without an error.
func TestCheckPlan(t *testing.T) {
	for lot := range line.MaxLot {
		for _, p := range plansOf(lot + 1) {
			same(t, "CheckPlan", line.CheckPlan(p), api.OK)
		}
	}
	for _, p := range wrongPlans() {
		same(t, "CheckPlan", line.CheckPlan(p), api.ErrRange)
	}
}

// P9.2: Acceptance and Risks of the chapter's example, and of others.
func TestAcceptance(t *testing.T) {
	for _, x := range []struct {
		p          plan
		defects    int
		acceptance api.Ratio
	}{
		{planOf(4, 2, 0), 0, ratio(1, 1)},
		{planOf(4, 2, 0), 1, ratio(1, 2)},
		{planOf(4, 2, 0), 2, ratio(1, 6)},
		{planOf(4, 2, 0), 3, ratio(0, 1)},
		{planOf(4, 2, 0), 4, ratio(0, 1)},
		{planOf(4, 1, 0), 1, ratio(3, 4)},
		{planOf(4, 1, 0), 2, ratio(1, 2)},
		{planOf(4, 2, 1), 2, ratio(5, 6)},
		{planOf(4, 2, 1), 3, ratio(1, 2)},
		{planOf(4, 3, 1), 3, ratio(0, 1)},
		{planOf(4, 4, 2), 2, ratio(1, 1)},
		{planOf(4, 4, 2), 3, ratio(0, 1)},
		{planOf(1, 1, 0), 0, ratio(1, 1)},
		{planOf(1, 1, 0), 1, ratio(0, 1)},
		{planOf(30, 15, 0), 15, ratio(1, 155117520)},
		{planOf(30, 15, 14), 15, ratio(155117519, 155117520)},
		{planOf(30, 30, 29), 30, ratio(0, 1)},
		{planOf(30, 1, 0), 7, ratio(23, 30)},
	} {
		want(t, "Acceptance", x.acceptance)(line.Acceptance(x.p, x.defects))
	}
	for _, x := range []struct {
		p         plan
		good, bad int
		risks     [2]api.Ratio
	}{
		{planOf(4, 2, 0), 0, 2, [2]api.Ratio{ratio(0, 1), ratio(1, 6)}},
		{planOf(4, 2, 0), 1, 2, [2]api.Ratio{ratio(1, 2), ratio(1, 6)}},
		{planOf(4, 2, 0), 2, 4, [2]api.Ratio{ratio(5, 6), ratio(0, 1)}},
		{planOf(4, 2, 0), 3, 4, [2]api.Ratio{ratio(1, 1), ratio(0, 1)}},
		{planOf(4, 2, 1), 0, 1, [2]api.Ratio{ratio(0, 1), ratio(1, 1)}},
		{planOf(4, 2, 1), 2, 3, [2]api.Ratio{ratio(1, 6), ratio(1, 2)}},
		{planOf(1, 1, 0), 0, 1, [2]api.Ratio{ratio(0, 1), ratio(0, 1)}},
		{planOf(30, 15, 0), 15, 16, [2]api.Ratio{ratio(155117519, 155117520), ratio(0, 1)}},
	} {
		want(t, "Risks", x.risks)(line.Risks(x.p, x.good, x.bad))
	}
}

// acceptedSamples returns the part of the samples of a lot, each one by its units, with which the lot is accepted; its first
// units are the defects.
func acceptedSamples(p plan, defects int) *big.Rat {
	accepted, all := 0, 0
	for sample := range uint(1) << p.Lot {
		if bits.OnesCount(sample) != p.Sample {
			continue
		}
		all++
		if bits.OnesCount(sample&(1<<defects-1)) <= p.Accept {
			accepted++
		}
	}
	return big.NewRat(int64(accepted), int64(all))
}

// hypergeometric returns the probability with which a lot is accepted, from products of numbers of combinations.
func hypergeometric(p plan, defects int) *big.Rat {
	ways := new(big.Int)
	for failed := max(0, p.Sample-(p.Lot-defects)); failed <= min(p.Accept, defects); failed++ {
		a := new(big.Int).Binomial(int64(defects), int64(failed))
		ways.Add(ways, a.Mul(a, new(big.Int).Binomial(int64(p.Lot-defects), int64(p.Sample-failed))))
	}
	return new(big.Rat).SetFrac(ways, new(big.Int).Binomial(int64(p.Lot), int64(p.Sample)))
}

// text returns a number as a ratio in lowest terms.
func text(x *big.Rat) api.Ratio {
	return ratio(int(x.Num().Int64()), int(x.Denom().Int64()))
}

// P9.2, P10: Acceptance against all samples of small lots.
func TestAcceptanceOfSamples(t *testing.T) {
	for lot := 1; lot <= 8; lot++ {
		for _, p := range plansOf(lot) {
			for defects := range lot + 1 {
				want(t, "Acceptance", text(acceptedSamples(p, defects)))(line.Acceptance(p, defects))
			}
		}
	}
}

// P9.2, P10: Acceptance and Risks of all plans against numbers of combinations.
func TestAcceptanceOfAll(t *testing.T) {
	for lot := 1; lot <= line.MaxLot; lot++ {
		for i, p := range plansOf(lot) {
			var all []api.Ratio
			for defects := range lot + 1 {
				x := text(hypergeometric(p, defects))
				all = append(all, x)
				want(t, "Acceptance", x)(line.Acceptance(p, defects))
			}
			bad := i%lot + 1
			good := i % bad
			x := all[good]
			refused := text(big.NewRat(int64(x.Den-x.Num), int64(x.Den)))
			want(t, "Risks", [2]api.Ratio{refused, all[bad]})(line.Risks(p, good, bad))
		}
	}
}

// wrongDefects are two numbers of defects of the lot 4 with their error.
type wrongDefects struct {
	good, bad int
	e         api.Errno
}

func someWrongDefects() []wrongDefects {
	l := []wrongDefects{
		{-1, 2, api.ErrRange}, {5, 6, api.ErrRange}, {0, 5, api.ErrRange}, {0, -1, api.ErrRange}, {4, 5, api.ErrRange}, {3, -1, api.ErrRange},
		{0, 0, api.ErrOrder}, {4, 4, api.ErrOrder}, {4, 3, api.ErrOrder}, {1, 0, api.ErrOrder}, {5, 5, api.ErrRange},
	}
	for _, n := range wrong {
		l = append(l, wrongDefects{n, 2, api.ErrRange}, wrongDefects{2, n, api.ErrRange}, wrongDefects{n, n, api.ErrRange})
	}
	return l
}

// P9.2: the errors of plans and of defects, from left to right.
func TestRiskErrors(t *testing.T) {
	type risks = [2]api.Ratio
	for _, p := range wrongPlans() {
		fails[api.Ratio](t, "Acceptance", api.ErrRange)(line.Acceptance(p, 0))
		fails[api.Ratio](t, "Acceptance", api.ErrRange)(line.Acceptance(p, -1))
		fails[risks](t, "Risks", api.ErrRange)(line.Risks(p, 0, 1))
		fails[risks](t, "Risks", api.ErrRange)(line.Risks(p, 1, 0))
		failsBoth[bool, int](t, "Decide", api.ErrRange)(line.Decide(p, nil))
		failsBoth[bool, int](t, "Decide", api.ErrRange)(line.Decide(p, make([]bool, 99)))
	}
	for _, n := range append([]int{-1, 5, 30}, wrong...) {
		fails[api.Ratio](t, "Acceptance", api.ErrRange)(line.Acceptance(planOf(4, 2, 0), n))
	}
	for _, x := range someWrongDefects() {
		fails[risks](t, "Risks", x.e)(line.Risks(planOf(4, 2, 0), x.good, x.bad))
	}
}

// smallestOf returns the smallest plan with risks that are not above the greatest ones. There is one: the whole lot as the
// sample, and the good defects as the acceptance number, have no risks.
func smallestOf(lot, good, bad int, most [2]api.Ratio) plan {
	plans := plansOf(lot)
	slices.Reverse(plans)
	var smallest plan
	for _, p := range plans {
		refused := new(big.Rat).Sub(big.NewRat(1, 1), hypergeometric(p, good))
		isLess := func(x *big.Rat, most api.Ratio) bool {
			return x.Cmp(big.NewRat(int64(most.Num), int64(most.Den))) <= 0
		}
		if isLess(refused, most[0]) && isLess(hypergeometric(p, bad), most[1]) {
			smallest = p
		}
	}
	return smallest
}

// P9.2: Smallest of the chapter's example, and of others.
func TestSmallest(t *testing.T) {
	one, none := ratio(1, 1), ratio(0, 1)
	for _, x := range []struct {
		lot, good, bad int
		most           [2]api.Ratio
		p              plan
	}{
		{4, 1, 2, [2]api.Ratio{ratio(1, 2), ratio(1, 6)}, planOf(4, 2, 0)},
		{4, 1, 2, [2]api.Ratio{ratio(499999999, 999999999), ratio(1, 6)}, planOf(4, 4, 1)},
		{4, 1, 2, [2]api.Ratio{ratio(1, 2), ratio(166666666, 999999997)}, planOf(4, 4, 1)},
		{4, 1, 2, [2]api.Ratio{ratio(1, 4), ratio(1, 2)}, planOf(4, 1, 0)},
		{4, 1, 2, [2]api.Ratio{ratio(1, 5), ratio(1, 2)}, planOf(4, 3, 1)},
		{4, 1, 2, [2]api.Ratio{none, none}, planOf(4, 4, 1)},
		{4, 0, 1, [2]api.Ratio{none, none}, planOf(4, 4, 0)},
		{4, 3, 4, [2]api.Ratio{none, none}, planOf(4, 4, 3)},
		{4, 3, 4, [2]api.Ratio{one, none}, planOf(4, 1, 0)},
		{4, 1, 2, [2]api.Ratio{one, one}, planOf(4, 1, 0)},
		{4, 1, 2, [2]api.Ratio{none, one}, planOf(4, 2, 1)},
		{4, 2, 3, [2]api.Ratio{none, one}, planOf(4, 3, 2)},
		{1, 0, 1, [2]api.Ratio{none, none}, planOf(1, 1, 0)},
		{30, 29, 30, [2]api.Ratio{none, none}, planOf(30, 30, 29)},
		{30, 0, 1, [2]api.Ratio{none, ratio(1, 2)}, planOf(30, 15, 0)},
		{30, 0, 1, [2]api.Ratio{none, ratio(499999999, 999999999)}, planOf(30, 16, 0)},
	} {
		want(t, "Smallest", x.p)(line.Smallest(x.lot, x.good, x.bad, x.most))
	}
}

// P9.2: Smallest against all plans.
func TestSmallestOfAll(t *testing.T) {
	next := random(11)
	for range 400 {
		lot := next(1, list(4, 12, line.MaxLot)[next(0, 2)])
		bad := next(1, lot)
		good := next(0, bad-1)
		den := list(1, 2, 7, 60, 1000)[next(0, 4)]
		most := [2]api.Ratio{text(big.NewRat(int64(next(0, den)), int64(den))), text(big.NewRat(int64(next(0, den)), int64(den)))}
		p := smallestOf(lot, good, bad, most)
		want(t, "Smallest", p)(line.Smallest(lot, good, bad, most))
		// The risks of this plan themselves are not too great.
		risks := of[[2]api.Ratio](t)(line.Risks(p, good, bad))
		want(t, "Smallest by its own risks", p)(line.Smallest(lot, good, bad, risks))
	}
}

// P9.2: the errors of Smallest: of the lot, the defects, then of both risks.
func TestSmallestErrors(t *testing.T) {
	half, one := ratio(1, 2), ratio(1, 1)
	bad := ratio(2, 4)
	for _, n := range wrongLots {
		fails[plan](t, "Smallest", api.ErrRange)(line.Smallest(n, 1, 2, [2]api.Ratio{half, half}))
		fails[plan](t, "Smallest", api.ErrRange)(line.Smallest(n, 2, 1, [2]api.Ratio{bad, bad}))
		fails[plan](t, "Smallest", api.ErrRange)(line.Smallest(n, 0, 0, [2]api.Ratio{half, half}))
	}
	for _, x := range someWrongDefects() {
		fails[plan](t, "Smallest", x.e)(line.Smallest(4, x.good, x.bad, [2]api.Ratio{one, one}))
		fails[plan](t, "Smallest", x.e)(line.Smallest(4, x.good, x.bad, [2]api.Ratio{bad, {}}))
	}
	type wrongRisk struct {
		x api.Ratio
		e api.Errno
	}
	risks := []wrongRisk{
		{api.Ratio{}, api.ErrRange}, {ratio(-1, 2), api.ErrRange}, {ratio(1, 0), api.ErrRange}, {ratio(1, -1), api.ErrRange}, {ratio(-2, 4), api.ErrRange},
		{ratio(1, api.MaxNumber+1), api.ErrRange}, {ratio(api.MaxNumber+1, 1), api.ErrRange}, {ratio(2, api.MaxNumber+1), api.ErrRange}, {ratio(0, -1), api.ErrRange},
		{ratio(0, 2), api.ErrForm}, {ratio(0, api.MaxNumber), api.ErrForm}, {bad, api.ErrForm}, {ratio(2, 2), api.ErrForm}, {ratio(4, 2), api.ErrForm},
		{ratio(2, 1), api.ErrRange}, {ratio(3, 2), api.ErrRange}, {ratio(api.MaxNumber, 1), api.ErrRange}, {ratio(api.MaxNumber, api.MaxNumber), api.ErrForm},
	}
	for _, n := range wrong {
		risks = append(risks, wrongRisk{ratio(n, 1), api.ErrRange}, wrongRisk{ratio(1, n), api.ErrRange}, wrongRisk{ratio(n, n), api.ErrRange})
	}
	for _, x := range risks {
		fails[plan](t, "Smallest", x.e)(line.Smallest(4, 1, 2, [2]api.Ratio{x.x, half}))
		fails[plan](t, "Smallest", x.e)(line.Smallest(4, 1, 2, [2]api.Ratio{half, x.x}))
		fails[plan](t, "Smallest", x.e)(line.Smallest(4, 1, 2, [2]api.Ratio{x.x, bad}))
		fails[plan](t, "Smallest", x.e)(line.Smallest(4, 1, 2, [2]api.Ratio{x.x, {}}))
		fails[plan](t, "Smallest", api.ErrForm)(line.Smallest(4, 1, 2, [2]api.Ratio{bad, x.x}))
	}
}

// resultsOf returns n results from the digits of a number.
func resultsOf(digits, n int) []bool {
	l := make([]bool, n)
	for i := range l {
		l[i] = digits>>i&1 == 1
	}
	return l
}

// failures returns how many results are failures.
func failures(l []bool) int {
	n := 0
	for _, hasFailed := range l {
		if hasFailed {
			n++
		}
	}
	return n
}

// decided returns whether a lot is accepted and the number of results at which this is certain, or 0: all results that the
// whole sample may have then are looked at.
func decided(p plan, failed []bool) (bool, int) {
	for n := range len(failed) + 1 {
		accepted, rest := 0, p.Sample-n
		for digits := range 1 << rest {
			if failures(slices.Concat(failed[:n], resultsOf(digits, rest))) <= p.Accept {
				accepted++
			}
		}
		if accepted == 0 || accepted == 1<<rest {
			return accepted > 0, n
		}
	}
	return false, 0
}

// P9.2: Decide of the chapter's example, and of others.
func TestDecide(t *testing.T) {
	const bad, good = true, false
	for _, x := range []struct {
		p        plan
		failed   []bool
		accepted bool
		n        int // 0 if it is not certain
	}{
		{planOf(4, 2, 0), list(good, good), true, 2},
		{planOf(4, 2, 0), list(bad), false, 1},
		{planOf(4, 2, 0), list(bad, good), false, 1},
		{planOf(4, 2, 0), list(good, bad), false, 2},
		{planOf(4, 2, 0), list(good), false, 0},
		{planOf(4, 2, 0), nil, false, 0},
		{planOf(4, 2, 1), list(good), true, 1},
		{planOf(4, 2, 1), list(good, bad), true, 1},
		{planOf(4, 2, 1), list(bad), false, 0},
		{planOf(4, 2, 1), list(bad, good), true, 2},
		{planOf(4, 2, 1), list(bad, bad), false, 2},
		{planOf(1, 1, 0), list(good), true, 1},
		{planOf(1, 1, 0), list(bad), false, 1},
		{planOf(30, 30, 29), list(good), true, 1},
		{planOf(30, 30, 29), repeated(bad, 29), false, 0},
		{planOf(30, 30, 29), repeated(bad, 30), false, 30},
		{planOf(30, 30, 0), repeated(good, 29), false, 0},
		{planOf(30, 30, 0), repeated(good, 30), true, 30},
		{planOf(30, 20, 5), append(repeated(bad, 5), repeated(good, 15)...), true, 20},
		{planOf(30, 20, 5), append(repeated(good, 14), bad, good), true, 16},
		{planOf(30, 20, 5), append(repeated(good, 14), repeated(bad, 6)...), false, 20},
	} {
		if x.n == 0 {
			failsBoth[bool, int](t, "Decide", api.ErrNone)(line.Decide(x.p, x.failed))
			continue
		}
		want(t, "Decide", two{x.accepted, x.n})(both(line.Decide(x.p, x.failed)))
	}
}

// P9.2: Decide against all results that the sample may have.
func TestDecideOfAll(t *testing.T) {
	for _, p := range plansOf(6) {
		for n := range p.Sample + 1 {
			for digits := range 1 << n {
				failed := resultsOf(digits, n)
				accepted, at := decided(p, failed)
				if at == 0 {
					failsBoth[bool, int](t, "Decide", api.ErrNone)(line.Decide(p, failed))
					continue
				}
				want(t, "Decide", two{accepted, at})(both(line.Decide(p, failed)))
			}
		}
	}
}

// P9.2: more results than the sample has units, also if the decision was certain before.
func TestDecideErrors(t *testing.T) {
	for _, p := range append(plansOf(5), planOf(30, 30, 3)) {
		for _, n := range []int{p.Sample + 1, p.Lot + 1, 99} {
			failsBoth[bool, int](t, "Decide", api.ErrMany)(line.Decide(p, repeated(true, n)))
			failsBoth[bool, int](t, "Decide", api.ErrMany)(line.Decide(p, repeated(false, n)))
		}
	}
}
