package line_test

import (
	"testing"

	"woofer/api"
	"woofer/line"
)

// P9.1: CheckMask of masks with and without an error, at the limits, too.
func TestCheckMask(t *testing.T) {
	const most = line.MaxValue
	for _, m := range []mask{exampleM(), between(0, 0), between(-most, most), between(-most, -most, most, most), between(draw(random(1), 2*line.MaxTests, 5, 5)...)} {
		same(t, "CheckMask", line.CheckMask(m), api.OK)
	}
	for _, x := range wrongMasks() {
		same(t, "CheckMask", line.CheckMask(x.m), x.e)
	}
}

// P9.1: Learn of the chapter's example, and of others; not beyond the range of values.
func TestLearn(t *testing.T) {
	const most = line.MaxValue
	for _, x := range []struct {
		golden []unit
		margin int
		m      mask
	}{
		{exampleU()[:2], 1, exampleM()},
		{exampleU()[:2], 0, between(10, 12, 20, 20)},
		{exampleU()[1:2], 0, between(12, 12, 20, 20)},
		{exampleU(), 3, between(7, 33, 17, 29)},
		{exampleU(), most - 10, between(10-most+10, most, 30-most, most)},
		{exampleU(), most, between(-most+10, most, -most+20, most)},
		{list(measured("a", -5)), most, between(-most, most-5)},
		{list(measured("a", -most, most)), 0, between(-most, -most, most, most)},
		{list(measured("a", -most, most)), 1, between(-most, 1-most, most-1, most)},
		{list(measured("a", 1-most), measured("b", most-1)), 1, between(-most, most)},
		{list(measured("a", 1-most), measured("b", most-1)), 2, between(-most, most)},
		{list(measured("a", 0)), most, between(-most, most)},
	} {
		want(t, "Learn", x.m)(line.Learn(x.golden, x.margin))
	}
}

// learned returns the mask learned from units: each limit is looked for.
func learned(golden []unit, margin int) mask {
	var m mask
	for test := range golden[0].Values {
		least, most := golden[0].Values[test], golden[0].Values[test]
		for _, u := range golden {
			if u.Values[test] < least {
				least = u.Values[test]
			}
			if u.Values[test] > most {
				most = u.Values[test]
			}
		}
		m.Least = append(m.Least, max(least-margin, -line.MaxValue))
		m.Most = append(m.Most, min(most+margin, line.MaxValue))
	}
	return m
}

// P9.1: Learn against limits that are looked for.
func TestLearnOfMany(t *testing.T) {
	next := random(5)
	for _, loud := range []int{3, 1000, line.MaxValue} {
		for range 100 {
			golden := drawnUnits(next, next(1, line.MaxUnits), next(1, line.MaxTests), loud)
			margin := next(0, loud)
			want(t, "Learn", learned(golden, margin))(line.Learn(golden, margin))
		}
	}
}

// P9.1: the errors of Learn: of the units, the margin, then of no units.
func TestLearnErrors(t *testing.T) {
	for _, x := range wrongLists() {
		fails[mask](t, "Learn", x.e)(line.Learn(x.l, 0))
		fails[mask](t, "Learn", x.e)(line.Learn(x.l, -1))
	}
	for _, n := range wrongMargins {
		fails[mask](t, "Learn", api.ErrRange)(line.Learn(exampleU(), n))
		fails[mask](t, "Learn", api.ErrRange)(line.Learn(nil, n))
	}
	fails[mask](t, "Learn", api.ErrEmpty)(line.Learn(nil, 0))
	fails[mask](t, "Learn", api.ErrEmpty)(line.Learn([]unit{}, line.MaxValue))
}

// P9.1: Narrow of the chapter's example, and of others.
func TestNarrow(t *testing.T) {
	const most = line.MaxValue
	for _, x := range []struct {
		m      mask
		guard  int
		narrow mask
	}{
		{exampleM(), 1, between(10, 12, 20, 20)},
		{exampleM(), 0, exampleM()},
		{between(0, 0), 0, between(0, 0)},
		{between(-most, most), most, between(0, 0)},
		{between(-most, most, -5, 5), 5, between(5-most, most-5, 0, 0)},
		{between(-7, 0, -most, 2-most, most-2, most), 1, between(-6, -1, 1-most, 1-most, most-1, most-1)},
		{between(4, 11), 3, between(7, 8)},
	} {
		want(t, "Narrow", x.narrow)(line.Narrow(x.m, x.guard))
	}
	for _, x := range []struct {
		m     mask
		guard int
	}{
		{exampleM(), 2},
		{exampleM(), most},
		{between(0, 0), 1},
		{between(0, 1), 1},
		{between(0, 10, 0, 9), 5},
		{between(0, 9, 0, 10), 5},
		{between(1-most, most), most},
		{between(-most, most-1), most},
		{between(most, most), most},
		{between(most, most), 1},
		{between(-most, -most), most},
		{between(-most, -most), 1},
	} {
		fails[mask](t, "Narrow", api.ErrInfeasible)(line.Narrow(x.m, x.guard))
	}
}

// P9.1: the errors of Narrow: of the mask, then of the guard.
func TestNarrowErrors(t *testing.T) {
	for _, x := range wrongMasks() {
		fails[mask](t, "Narrow", x.e)(line.Narrow(x.m, 0))
		fails[mask](t, "Narrow", x.e)(line.Narrow(x.m, -1))
		fails[mask](t, "Narrow", x.e)(line.Narrow(x.m, line.MaxValue))
	}
	for _, n := range wrongMargins {
		fails[mask](t, "Narrow", api.ErrRange)(line.Narrow(exampleM(), n))
		fails[mask](t, "Narrow", api.ErrRange)(line.Narrow(between(0, 0), n))
	}
}

// P9.1: Failures of the chapter's example, and of others.
func TestFailures(t *testing.T) {
	const most = line.MaxValue
	u := exampleU()
	wide := between(0, 1, 0, 1, 0, 1, 0, 1)
	for _, x := range []struct {
		m        mask
		u        unit
		failures []int
	}{
		{exampleM(), u[0], nil},
		{exampleM(), u[1], nil},
		{exampleM(), u[2], list(1)},
		{exampleM(), u[3], list(0)},
		{exampleM(), measured("x", 8, 22), list(0, 1)},
		{exampleM(), measured("x", 9, 21), nil},
		{exampleM(), measured("x", 13, 19), nil},
		{exampleM(), measured("x", 14, 18), list(0, 1)},
		{wide, measured("x", -1, 0, 2, 1), list(0, 2)},
		{wide, measured("x", 2, -1, most, -most), list(0, 1, 2, 3)},
		{wide, measured("x", 1, 1, 0, -1), list(3)},
		{between(-most, most), measured("x", most), nil},
		{between(-most, most-1), measured("x", most), list(0)},
		{between(1-most, most), measured("x", -most), list(0)},
	} {
		want(t, "Failures", x.failures)(line.Failures(x.m, x.u))
	}
}

// P9.1: the errors of a mask, a unit, and of their shapes.
func TestTestedErrors(t *testing.T) {
	failsTested := func(m mask, u unit, e api.Errno) {
		t.Helper()
		fails[[]int](t, "Failures", e)(line.Failures(m, u))
		fails[int](t, "Grade", e)(line.Grade(m, u, 1))
		fails[int](t, "Grade", e)(line.Grade(m, u, 0))
		fails[api.Ratio](t, "Yield", e)(line.Yield(m, list(u)))
	}
	for _, x := range wrongMasks() {
		failsTested(x.m, exampleU()[0], x.e)
		failsTested(x.m, unit{}, x.e)
		fails[api.Ratio](t, "Yield", x.e)(line.Yield(x.m, nil))
		fails[api.Ratio](t, "Yield", x.e)(line.Yield(x.m, repeated(unit{}, 99)))
	}
	for _, x := range wrongUnits() {
		failsTested(exampleM(), x.u, x.e)
	}
	for _, u := range []unit{measured("a", 10), measured("a", 10, 20, 30), measured("a", make([]int, line.MaxTests)...), measured("a", 99)} {
		failsTested(exampleM(), u, api.ErrShape)
	}
}

// gradeOf returns the grade of a unit: each class is the greatest number whose part of the width is not above the deviation.
func gradeOf(m mask, u unit, classes int) int {
	grade := 0
	for test, value := range u.Values {
		a, b := m.Least[test], m.Most[test]
		deviation := max(2*value-a-b, a+b-2*value)
		class := 0
		for class+1 < classes && (class+1)*(b-a) <= classes*deviation && a != b {
			class++
		}
		grade = max(grade, class)
	}
	return grade
}

// P9.1: Grade of the chapter's example, and of others.
func TestGrade(t *testing.T) {
	const most = line.MaxValue
	u := exampleU()
	wide := between(0, 8, 100, 200)
	for _, x := range []struct {
		m       mask
		u       unit
		classes int
		grade   int
	}{
		{exampleM(), u[0], 2, 1},
		{exampleM(), u[0], 1, 0},
		{exampleM(), u[1], 3, 1},
		{exampleM(), measured("x", 11, 20), 100, 0},
		{exampleM(), measured("x", 9, 20), 100, 99},
		{exampleM(), measured("x", 11, 21), 7, 6},
		{exampleM(), measured("x", 13, 19), 1, 0},
		// The deviations of 0 to 8 are 8, 6, 4, 2, 0, 2 and so on, of 8.
		{wide, measured("x", 4, 150), 4, 0},
		{wide, measured("x", 5, 150), 4, 1},
		{wide, measured("x", 5, 150), 3, 0},
		{wide, measured("x", 3, 150), 5, 1},
		{wide, measured("x", 2, 150), 4, 2},
		{wide, measured("x", 7, 150), 4, 3},
		{wide, measured("x", 8, 150), 4, 3},
		{wide, measured("x", 0, 150), 4, 3},
		{wide, measured("x", 5, 175), 4, 2},
		{wide, measured("x", 7, 175), 4, 3},
		{wide, measured("x", 5, 174), 4, 1},
		{wide, measured("x", 4, 101), 100, 98},
		{wide, measured("x", 4, 100), 100, 99},
		{between(5, 5), measured("x", 5), 100, 0},
		{between(5, 5, 0, 1), measured("x", 5, 1), 100, 99},
		{between(0, 1), measured("x", 0), 2, 1},
		{between(-most, most), measured("x", 0), 100, 0},
		{between(-most, most), measured("x", most), 100, 99},
		{between(-most, most), measured("x", 999-most), 100, 99},
		{between(-most, most), measured("x", 1001-most), 100, 98},
	} {
		want(t, "Grade", x.grade)(line.Grade(x.m, x.u, x.classes))
	}
	next := random(7)
	for range 3000 {
		loud := list(1, 4, 50, most)[next(0, 3)]
		m, values := mask{}, []int(nil)
		for range next(1, 3) {
			a, b := next(-loud, loud), next(-loud, loud)
			m.Least, m.Most = append(m.Least, min(a, b)), append(m.Most, max(a, b))
			values = append(values, next(min(a, b), max(a, b)))
		}
		classes := next(1, list(3, 10, line.MaxClasses)[next(0, 2)])
		want(t, "Grade", gradeOf(m, measured("x", values...), classes))(line.Grade(m, measured("x", values...), classes))
	}
}

// P9.1: the errors of Grade: of the classes, then of a unit that does not pass.
func TestGradeErrors(t *testing.T) {
	for _, n := range append([]int{0, -1, line.MaxClasses + 1}, wrong...) {
		fails[int](t, "Grade", api.ErrRange)(line.Grade(exampleM(), exampleU()[0], n))
		fails[int](t, "Grade", api.ErrRange)(line.Grade(exampleM(), exampleU()[3], n))
		fails[int](t, "Grade", api.ErrShape)(line.Grade(exampleM(), measured("a", 10), n))
	}
	for _, u := range []unit{exampleU()[2], exampleU()[3], measured("x", 8, 20), measured("x", 11, 22)} {
		fails[int](t, "Grade", api.ErrFail)(line.Grade(exampleM(), u, 2))
		fails[int](t, "Grade", api.ErrFail)(line.Grade(exampleM(), u, line.MaxClasses))
	}
	fails[int](t, "Grade", api.ErrFail)(line.Grade(between(5, 5), measured("x", 6), 1))
}

// P9.1: Yield of the chapter's example, and of others, in lowest terms.
func TestYield(t *testing.T) {
	u := exampleU()
	many := numbered(line.MaxUnits, func(i int) []int { return list(i) })
	for _, x := range []struct {
		m     mask
		l     []unit
		yield api.Ratio
	}{
		{exampleM(), u, ratio(1, 2)},
		{exampleM(), u[:1], ratio(1, 1)},
		{exampleM(), u[:2], ratio(1, 1)},
		{exampleM(), u[:3], ratio(2, 3)},
		{exampleM(), u[1:], ratio(1, 3)},
		{exampleM(), u[2:], ratio(0, 1)},
		{exampleM(), u[3:], ratio(0, 1)},
		{between(0, 0), many, ratio(1, 64)},
		{between(1, 63), many, ratio(63, 64)},
		{between(10, 57), many, ratio(3, 4)},
		{between(0, 63), many, ratio(1, 1)},
		{between(-9, -1), many, ratio(0, 1)},
	} {
		want(t, "Yield", x.yield)(line.Yield(x.m, x.l))
	}
}

// P9.1: the errors of Yield: of the mask, the units, their shapes, then of no units.
func TestYieldErrors(t *testing.T) {
	for _, x := range wrongLists() {
		fails[api.Ratio](t, "Yield", x.e)(line.Yield(exampleM(), x.l))
		fails[api.Ratio](t, "Yield", x.e)(line.Yield(between(0, 1, 0, 1, 0, 1, 0, 1), x.l))
		fails[api.Ratio](t, "Yield", api.ErrOrder)(line.Yield(between(1, 0), x.l))
	}
	for _, m := range []mask{between(0, 9), between(0, 9, 0, 9, 0, 9)} {
		fails[api.Ratio](t, "Yield", api.ErrShape)(line.Yield(m, exampleU()))
		fails[api.Ratio](t, "Yield", api.ErrEmpty)(line.Yield(m, nil))
	}
	fails[api.Ratio](t, "Yield", api.ErrEmpty)(line.Yield(exampleM(), []unit{}))
}
