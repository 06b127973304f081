package line_test

import (
	"slices"
	"testing"

	"woofer/api"
	"woofer/line"
)

// wrongWork is work and a number of benches with their error.
type wrongWork struct {
	work    []int
	benches int
	e       api.Errno
}

func someWrongWork() []wrongWork {
	const most = line.MaxValue
	l := []wrongWork{
		{repeated(1, 9), 2, api.ErrMany},
		{repeated(0, 9), 2, api.ErrMany},
		{repeated(1, 999), 0, api.ErrMany},
		{list(0), 2, api.ErrRange},
		{list(-1), 2, api.ErrRange},
		{list(most + 1), 2, api.ErrRange},
		{append(repeated(most, 7), most+1), 4, api.ErrRange},
		{append(list(0), repeated(1, 7)...), 4, api.ErrRange},
		{list(1, 2, 0, 4), 5, api.ErrRange},
	}
	for _, n := range append([]int{0, -1, line.MaxBenches + 1}, wrong...) {
		l = append(l, wrongWork{nil, n, api.ErrRange}, wrongWork{list(1, 2), n, api.ErrRange}, wrongWork{repeated(1, 9), n, api.ErrMany})
	}
	for _, n := range wrong {
		l = append(l, wrongWork{list(n), 1, api.ErrRange}, wrongWork{list(1, n, 2), 1, api.ErrRange}, wrongWork{repeated(n, 9), 1, api.ErrMany})
	}
	return l
}

// endOf returns the end of a schedule.
func endOf(work, l []int) int {
	sums := map[int]int{}
	end := 0
	for i, n := range work {
		sums[l[i]] += n
		end = max(end, sums[l[i]])
	}
	return end
}

// scheduleOf returns the first schedule with the least end: all are looked at, by the digits of a number.
func scheduleOf(work []int, benches int) ([]int, int) {
	count := 1
	for range work {
		count *= benches
	}
	best, least := []int(nil), -1
	for number := range count {
		l := make([]int, len(work))
		rest := number
		for i := len(l) - 1; i >= 0; i-- {
			l[i], rest = rest%benches, rest/benches
		}
		if end := endOf(work, l); least < 0 || end < least {
			best, least = l, end
		}
	}
	return best, least
}

// P9.3: Schedule, its end by CheckSchedule, and Bound of the chapter's example, and of others.
func TestSchedule(t *testing.T) {
	const most = line.MaxValue
	for _, x := range []struct {
		work     []int
		benches  int
		schedule []int
		end      int
		bound    int
	}{
		{list(3, 3, 2, 2, 2), 2, list(0, 0, 1, 1, 1), 6, 6},
		{list(3, 3, 2, 2, 2), 3, list(0, 1, 0, 1, 2), 5, 4},
		{list(3, 3, 2, 2, 2), 1, list(0, 0, 0, 0, 0), 12, 12},
		{list(3, 3, 2, 2, 2), 4, list(0, 1, 2, 2, 3), 4, 4},
		{nil, 1, nil, 0, 0},
		{nil, 4, nil, 0, 0},
		{list(7), 1, list(0), 7, 7},
		{list(7), 4, list(0), 7, 7},
		{list(1, 9), 3, list(0, 1), 9, 9},
		{list(1, 1, 9), 3, list(0, 0, 1), 9, 9},
		{list(1, 1, 9, 1), 3, list(0, 0, 1, 0), 9, 9},
		{list(5, 5, 5), 2, list(0, 0, 1), 10, 10},
		{list(5, 5, 5, 5, 5), 2, list(0, 0, 0, 1, 1), 15, 13},
		{list(2, 5, 4, 1), 2, list(0, 1, 0, 1), 6, 6},
		{list(5, 5, 5, 5, 5), 4, list(0, 0, 1, 1, 2), 10, 10},
		{list(9, 5, 5, 1), 3, list(0, 1, 2, 1), 9, 9},
		{list(4, 4, 4, 1), 3, list(0, 1, 2, 0), 5, 5},
		{list(1, 1), 3, list(0, 1), 1, 1},
		{list(2, 2, 1), 2, list(0, 1, 0), 3, 3},
		{repeated(most, 8), 1, repeated(0, 8), 8 * most, 8 * most},
		{repeated(most, 8), 3, list(0, 0, 0, 1, 1, 1, 2, 2), 3 * most, 266667},
		{repeated(most, 8), 4, list(0, 0, 1, 1, 2, 2, 3, 3), 2 * most, 2 * most},
		{repeated(1, 8), 4, list(0, 0, 1, 1, 2, 2, 3, 3), 2, 2},
		{list(most, 1, 1, 1, 1, 1, 1, 1), 2, list(0, 1, 1, 1, 1, 1, 1, 1), most, most},
	} {
		want(t, "Schedule", two{x.schedule, x.end})(both(line.Schedule(x.work, x.benches)))
		want(t, "CheckSchedule", x.end)(line.CheckSchedule(x.work, x.benches, x.schedule))
		want(t, "Bound", x.bound)(line.Bound(x.work, x.benches))
	}
}

// boundOf returns the bound of work: each of its numbers by the lengths that are as great.
func boundOf(work []int, benches int) int {
	sorted := slices.Clone(work)
	slices.Sort(sorted)
	slices.Reverse(sorted)
	sum, bound := 0, 0
	for _, n := range work {
		sum += n
		bound = max(bound, n)
	}
	for bound*benches < sum {
		bound++
	}
	if len(work) > benches {
		bound = max(bound, sorted[benches-1]+sorted[benches])
	}
	return bound
}

// P9.3: Schedule and Bound against all schedules.
func TestScheduleOfAll(t *testing.T) {
	next := random(13)
	for i := range 200 {
		work := draw(next, next(0, 5+i%4), 1, list(1, 4, 30, line.MaxValue)[next(0, 3)])
		benches := next(1, line.MaxBenches)
		if len(work) > 6 {
			benches = min(benches, 3)
		}
		schedule, end := scheduleOf(work, benches)
		want(t, "Schedule", two{schedule, end})(both(line.Schedule(work, benches)))
		want(t, "Bound", boundOf(work, benches))(line.Bound(work, benches))
	}
	for range 4 {
		work := draw(next, 8, 1, 20)
		schedule, end := scheduleOf(work, 4)
		want(t, "Schedule", two{schedule, end})(both(line.Schedule(work, 4)))
	}
}

// P9.3: CheckSchedule of any schedules.
func TestCheckSchedule(t *testing.T) {
	work := list(5, 1, 7, 2)
	for _, x := range []struct {
		l       []int
		benches int
		end     int
	}{
		{list(0, 0, 0, 0), 1, 15},
		{list(0, 0, 0, 0), 4, 15},
		{list(3, 3, 3, 3), 4, 15},
		{list(0, 1, 2, 3), 4, 7},
		{list(3, 2, 1, 0), 4, 7},
		{list(1, 1, 0, 0), 2, 9},
		{list(1, 0, 0, 1), 2, 8},
		{list(2, 2, 0, 2), 3, 8},
	} {
		want(t, "CheckSchedule", x.end)(line.CheckSchedule(work, x.benches, x.l))
	}
	next := random(15)
	for range 500 {
		benches, work := next(1, line.MaxBenches), draw(next, next(0, api.MaxExact), 1, line.MaxValue)
		l := draw(next, len(work), 0, benches-1)
		want(t, "CheckSchedule", endOf(work, l))(line.CheckSchedule(work, benches, l))
	}
}

// P9.3: the errors of work and of benches, from left to right.
func TestWorkErrors(t *testing.T) {
	for _, x := range someWrongWork() {
		failsBoth[[]int, int](t, "Schedule", x.e)(line.Schedule(x.work, x.benches))
		fails[int](t, "Bound", x.e)(line.Bound(x.work, x.benches))
		for _, l := range [][]int{nil, make([]int, len(x.work)), repeated(9, 99)} {
			fails[int](t, "CheckSchedule", x.e)(line.CheckSchedule(x.work, x.benches, l))
		}
	}
}

// P9.3: the errors of schedules.
func TestScheduleErrors(t *testing.T) {
	work := list(5, 1, 7)
	for _, l := range [][]int{nil, list(0, 1), list(0, 1, 0, 1), list(9, 9), repeated(9, 99)} {
		fails[int](t, "CheckSchedule", api.ErrShape)(line.CheckSchedule(work, 2, l))
	}
	fails[int](t, "CheckSchedule", api.ErrShape)(line.CheckSchedule(nil, 2, list(0)))
	for _, n := range append([]int{-1, 2, 3, 4}, wrong...) {
		for i := range work {
			l := make([]int, len(work))
			l[i] = n
			fails[int](t, "CheckSchedule", api.ErrUnknown)(line.CheckSchedule(work, 2, l))
		}
	}
	fails[int](t, "CheckSchedule", api.ErrUnknown)(line.CheckSchedule(work, 4, list(0, 3, 4)))
	fails[int](t, "CheckSchedule", api.ErrUnknown)(line.CheckSchedule(work, 1, list(0, 1, 0)))
}
