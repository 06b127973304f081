package line

import (
	"cmp"
	"math"
	"slices"

	"woofer/api"
	"woofer/common"
)

// checkWork returns the first error of work and a number of benches, or OK.
func checkWork(work []int, benches int) api.Errno {
	isNone := func(n int) bool { return !common.Within(n, 1, MaxValue) }
	return common.First(
		common.When(len(work) > api.MaxExact, api.ErrMany),
		common.When(slices.ContainsFunc(work, isNone), api.ErrRange),
		common.CheckRange(benches, 1, MaxBenches),
	)
}

// sums are those of the lengths on each bench.
type sums [MaxBenches]int

// with returns the sums with a length more on a bench.
func (s sums) with(bench, n int) sums {
	s[bench] += n
	return s
}

// end returns the greatest one of sums.
func (s sums) end() int {
	return slices.Max(s[:])
}

// earliest returns the first one of the schedules with the least end, and this end, or no schedule and the value below, if
// none ends below it. The sums are those of the lengths before the work, and end below it.
func earliest(work []int, benches int, before sums, below int) ([]int, int) {
	if len(work) == 0 {
		return nil, before.end()
	}
	var first []int
	for bench := range benches {
		next := before.with(bench, work[0])
		if next.end() >= below {
			continue
		}
		others, end := earliest(work[1:], benches, next, below)
		if end < below {
			first, below = slices.Concat([]int{bench}, others), end
		}
	}
	return first, below
}

// Schedule returns the schedule with the least end, and this end.
func Schedule(work []int, benches int) ([]int, int, api.Errno) {
	if e := checkWork(work, benches); e != api.OK {
		return nil, 0, e
	}
	first, end := earliest(work, benches, sums{}, math.MaxInt)
	return first, end, api.OK
}

// CheckSchedule returns the end of a schedule, or its first error.
func CheckSchedule(work []int, benches int, l []int) (int, api.Errno) {
	isUnknown := func(bench int) bool { return !common.Within(bench, 0, benches-1) }
	e := common.First(
		checkWork(work, benches),
		common.When(len(l) != len(work), api.ErrShape),
		common.When(slices.ContainsFunc(l, isUnknown), api.ErrUnknown),
	)
	if e != api.OK {
		return 0, e
	}
	var s sums
	for i, bench := range l {
		s = s.with(bench, work[i])
	}
	return s.end(), api.OK
}

// length is a length of work.
type length int

// compareDown orders lengths so that they descend.
func (n length) compareDown(m length) int {
	return cmp.Compare(m, n)
}

// Bound returns a number before which no schedule ends.
func Bound(work []int, benches int) (int, api.Errno) {
	if e := checkWork(work, benches); e != api.OK {
		return 0, e
	}
	var sorted [api.MaxExact]length // 0 behind the last one
	copy(sorted[:], common.Mapped(work, func(n int) length { return length(n) }))
	slices.SortFunc(sorted[:], length.compareDown)
	var sum length
	for _, n := range sorted {
		sum += n
	}
	count := length(benches)
	// Without more lengths than benches the last number is no greater than the first one.
	return int(max(sorted[0], (sum+count-1)/count, sorted[benches-1]+sorted[benches])), api.OK
}
