package section_test

import (
	"math"
	"slices"
	"testing"

	"woofer/api"
	"woofer/section"
)

// drawnKeeper returns a section that keeps all information.
func drawnKeeper(next func(least, most int) int) section.Section {
	shift := next(0, section.MaxShift-1) // the unit of the greatest shift is no tap
	most := list(1, 2<<shift, section.MaxTap)[next(0, 2)]
	most = min(most, section.MaxTap)
	return filter(1<<shift, next(-most, most), next(-most, most), shift)
}

// P5.4: Undo of the chapter's example, and of others.
func TestUndo(t *testing.T) {
	for _, x := range []struct {
		s       section.Section
		out, in []int
	}{
		{filter(2, 1, 0, 1), list(3, 2, -2), list(3, 1, -2)},
		{filter(1, 0, 0, 0), list(32767, -32767, 0), list(32767, -32767, 0)},
		{filter(1, 0, 0, 0), nil, nil},
		{filter(16384, 0, 0, 14), list(5, -5), list(5, -5)},
		{filter(1, -1, 0, 0), list(1, 1, 1, 1), list(1, 2, 3, 4)},
		{filter(1, 0, -1, 0), list(1, 1, 1, 1), list(1, 1, 2, 2)},
		{filter(1, 1, 0, 0), list(1, 1, 1, 1), list(1, 0, 1, 0)},
		{filter(4, -3, 0, 2), list(8, 0, 0, 0, 0, 0), list(8, 6, 5, 4, 3, 3)},
		{filter(4, 3, 0, 2), list(-8, 0, 0, 0, 0, 0), list(-8, 6, -4, 3, -2, 2)},
		{filter(4, 1, -2, 2), list(3, -3, 5), list(3, -3, 8)},
	} {
		want(t, "Undo", x.in)(section.Undo(x.s, x.out))
		want(t, "Run", x.out)(section.Run(x.s, x.in))
	}
	most := slices.Repeat([]int{1, -2}, section.MaxInput/2)
	want(t, "the longest Undo", most)(section.Undo(filter(1, 0, 0, 0), most))
}

// P5.4: an input that Undo finds beyond the limits, and those at them.
func TestUndoBeyond(t *testing.T) {
	double := filter(1, -1, 0, 0) // adds up
	want(t, "Undo", list(32766, 32767))(section.Undo(double, list(32766, 1)))
	want(t, "Undo", list(-32766, -32767))(section.Undo(double, list(-32766, -1)))
	fails[[]int](t, "Undo", api.ErrRange)(section.Undo(double, list(32766, 2)))
	fails[[]int](t, "Undo", api.ErrRange)(section.Undo(double, list(-32766, -2)))
	fails[[]int](t, "Undo", api.ErrRange)(section.Undo(double, list(32767, 1, -1, -1)))
	fails[[]int](t, "Undo", api.ErrRange)(section.Undo(filter(1, 0, -32767, 0), list(2, 0, 0)))
	want(t, "Undo", list(1, 0, 32767))(section.Undo(filter(1, 0, -32767, 0), list(1, 0, 0)))
	// An output that was limited is taken as any other one.
	limited := of[[]int](t)(section.Run(filter(1, 1, 0, 0), list(32767, 1, 0)))
	same(t, "Run", limited, list(32767, 32767, 1))
	want(t, "Undo", list(32767, 0, 1))(section.Undo(filter(1, 1, 0, 0), limited))
}

// P5.4: sections that do not keep all information.
func TestUndoSingular(t *testing.T) {
	singular := []section.Section{
		{}, exampleS, filter(1, 2, 1, 2), filter(0, 1, 0, 0), filter(-1, 0, 0, 0), filter(2, 0, 0, 0), filter(1, 0, 0, 1), filter(3, 1, 0, 2), filter(32767, 0, 0, 15),
		filter(-2, 0, 0, 1), back(filter(1, 0, 0, 0), 1, 0), back(filter(2, 0, 0, 1), 0, -1), back(filter(4, 1, 1, 2), 1, -1), filter(0, 0, 1, 0), filter(16384, 1, 1, 15),
	}
	for _, s := range singular {
		fails[[]int](t, "Undo", api.ErrSingular)(section.Undo(s, list(1)))
		fails[[]int](t, "Undo", api.ErrSingular)(section.Undo(s, nil))
		for _, x := range wrongSignals() {
			fails[[]int](t, "Undo", api.ErrSingular)(section.Undo(s, x.l))
		}
	}
	for _, s := range wrongSections() {
		fails[[]int](t, "Undo", api.ErrRange)(section.Undo(s, list(1)))
		fails[[]int](t, "Undo", api.ErrRange)(section.Undo(s, make([]int, section.MaxInput+1)))
	}
	for _, x := range wrongSignals() {
		fails[[]int](t, "Undo", x.e)(section.Undo(filter(1, 0, 0, 0), x.l))
	}
	// The error of the signal comes before an input that is found beyond the limits.
	fails[[]int](t, "Undo", api.ErrMany)(section.Undo(filter(1, -32767, 0, 0), slices.Repeat([]int{32767}, section.MaxInput+1)))
}

// P5.4: Undo against numbers that are counted as floats; none of them is too large for it.
func TestUndoIsNumber(t *testing.T) {
	next := random(29)
	beyond := 0
	for range 500 {
		s, l := drawnKeeper(next), draw(next, next(0, 12), list(3, 1000, section.MaxValue)[next(0, 2)])
		x1, x2 := 0.0, 0.0
		var found []int
		for _, y := range l {
			rest := math.Floor((float64(s.B1)*x1 + float64(s.B2)*x2) / float64(s.B0))
			x1, x2 = float64(y)-rest, x1
			if math.Abs(x1) > section.MaxValue {
				break
			}
			found = append(found, int(x1))
		}
		if len(found) < len(l) {
			fails[[]int](t, "Undo", api.ErrRange)(section.Undo(s, l))
			beyond++
			continue
		}
		want(t, "Undo", found)(section.Undo(s, l))
	}
	same(t, "enough of both sorts", beyond > 50 && beyond < 450, true)
}
