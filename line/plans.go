package line

import (
	"woofer/api"
	"woofer/common"
	"woofer/signal"
)

// checkLot returns the error of a lot, or OK.
func checkLot(lot int) api.Errno {
	return common.CheckRange(lot, 1, MaxLot)
}

// CheckPlan returns the first error of a test plan, or OK.
func CheckPlan(p Plan) api.Errno {
	return common.First(
		checkLot(p.Lot),
		common.CheckRange(p.Sample, 1, p.Lot),
		common.CheckRange(p.Accept, 0, p.Sample-1),
	)
}

// checkDefects returns the first error of two numbers of defects of a lot, or OK.
func checkDefects(lot, good, bad int) api.Errno {
	return common.First(
		common.CheckRange(good, 0, lot),
		common.CheckRange(bad, 0, lot),
		common.When(bad <= good, api.ErrOrder),
	)
}

// checkRisk returns the first error of a greatest risk, or OK.
func checkRisk(x api.Ratio) api.Errno {
	return common.First(
		common.CheckRange(x.Num, 0, api.MaxNumber),
		signal.CheckRatio(x),
		common.CheckRange(x.Num, 0, x.Den),
	)
}

// choose returns in how many ways k of n units are chosen: 0 if there are fewer.
func choose(n, k int) int {
	ways := 1
	for i := range k {
		ways = ways * (n - i) / (i + 1)
	}
	return ways
}

// acceptanceOf returns the probability with which a lot is accepted.
func acceptanceOf(p Plan, defects int) api.Ratio {
	ways := 0
	for failed := range p.Accept + 1 {
		ways += choose(defects, failed) * choose(p.Lot-defects, p.Sample-failed)
	}
	return common.Lowest(api.Ratio{Num: ways, Den: choose(p.Lot, p.Sample)})
}

// Acceptance returns the probability with which a lot is accepted.
func Acceptance(p Plan, defects int) (api.Ratio, api.Errno) {
	if e := common.First(CheckPlan(p), common.CheckRange(defects, 0, p.Lot)); e != api.OK {
		return api.Ratio{}, e
	}
	return acceptanceOf(p, defects), api.OK
}

// risksOf returns both risks of a test plan.
func risksOf(p Plan, good, bad int) [2]api.Ratio {
	accepted := acceptanceOf(p, good)
	refused := api.Ratio{Num: accepted.Den - accepted.Num, Den: accepted.Den}
	return [2]api.Ratio{refused, acceptanceOf(p, bad)}
}

// Risks returns both risks of a test plan.
func Risks(p Plan, good, bad int) ([2]api.Ratio, api.Errno) {
	if e := common.First(CheckPlan(p), checkDefects(p.Lot, good, bad)); e != api.OK {
		return [2]api.Ratio{}, e
	}
	return risksOf(p, good, bad), api.OK
}

// smallestOf returns the first plan for a lot, by its sample and then by its acceptance number, that is small enough, or
// the zero value, which is no plan, if there is none.
func smallestOf(lot int, isEnough func(p Plan) bool) Plan {
	for sample := 1; sample <= lot; sample++ {
		for accept := range sample {
			p := Plan{Lot: lot, Sample: sample, Accept: accept}
			if isEnough(p) {
				return p
			}
		}
	}
	return Plan{}
}

// Smallest returns the smallest test plan with risks that are small enough.
func Smallest(lot, good, bad int, most [2]api.Ratio) (Plan, api.Errno) {
	e := common.First(
		checkLot(lot),
		checkDefects(lot, good, bad),
		checkRisk(most[0]),
		checkRisk(most[1]),
	)
	if e != api.OK {
		return Plan{}, e
	}
	p := smallestOf(lot, func(p Plan) bool {
		risks := risksOf(p, good, bad)
		return common.Compare(risks[0], most[0]) <= 0 && common.Compare(risks[1], most[1]) <= 0
	})
	return p, common.When(p == Plan{}, api.ErrInfeasible)
}

// Decide returns whether a lot is accepted, and at which number of results this is certain.
func Decide(p Plan, failed []bool) (bool, int, api.Errno) {
	if e := common.First(CheckPlan(p), common.When(len(failed) > p.Sample, api.ErrMany)); e != api.OK {
		return false, 0, e
	}
	failures := 0
	for i, hasFailed := range failed {
		if hasFailed {
			failures++
		}
		results := i + 1
		switch {
		case failures > p.Accept:
			return false, results, api.OK
		case results-failures >= p.Sample-p.Accept:
			return true, results, api.OK
		}
	}
	return false, 0, api.ErrNone
}
