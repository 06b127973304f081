package chamber_test

import (
	"testing"

	"woofer/api"
	"woofer/chamber"
)

// P7.3: Kinds, each time as new memory.
func TestKinds(t *testing.T) {
	kinds := chamber.Kinds()
	same(t, "Kinds", kinds, "[bell flat ramp]")
	kinds[0] = "none"
	same(t, "Kinds behind a change of the result", chamber.Kinds(), "[bell flat ramp]")
	want(t, "Window behind it", list(64))(chamber.Window("bell", 1))
}

// P7.3: Window of the chapter's examples, and of others.
func TestWindow(t *testing.T) {
	for _, x := range []struct {
		n                int
		bell, flat, ramp []int
	}{
		{1, list(64), list(64), list(64)},
		{2, list(42, 42), list(64, 64), list(64, 32)},
		{3, list(32, 64, 32), list(64, 64, 64), list(64, 42, 21)},
		{4, list(25, 51, 51, 25), list(64, 64, 64, 64), list(64, 48, 32, 16)},
		{5, list(21, 42, 64, 42, 21), repeated(64, 5), list(64, 51, 38, 25, 12)},
		{6, list(18, 36, 54, 54, 36, 18), repeated(64, 6), list(64, 53, 42, 32, 21, 10)},
	} {
		want(t, "bell", x.bell)(chamber.Window("bell", x.n))
		want(t, "flat", x.flat)(chamber.Window("flat", x.n))
		want(t, "ramp", x.ramp)(chamber.Window("ramp", x.n))
	}
}

// P7.3: Window of all lengths: no weight is above its quotient, and a greater one would be.
func TestAllWindows(t *testing.T) {
	for n := 1; n <= longest; n++ {
		bell := of[[]int](t)(chamber.Window("bell", n))
		ramp := of[[]int](t)(chamber.Window("ramp", n))
		want(t, "flat", repeated(64, n))(chamber.Window("flat", n))
		same(t, "lengths", []int{len(bell), len(ramp)}, list(n, n))
		for i := range n {
			same(t, "bell", bell[i], floor(128*min(i+1, n-i), n+1))
			same(t, "its mirror", bell[i], bell[n-1-i])
			same(t, "ramp", ramp[i], floor(64*(n-i), n))
		}
	}
}

// P7.3: kinds that are none, before lengths that are none.
func TestWrongWindows(t *testing.T) {
	for _, kind := range []string{"", "Bell", "bell ", " ramp", "flat\n", "hann", "bel", "ramps", "\xff", "bellflat"} {
		for _, n := range append(wrongLengths, 1, 4, longest) {
			fails[[]int](t, "Window", api.ErrKind)(chamber.Window(kind, n))
		}
	}
	for _, kind := range chamber.Kinds() {
		for _, n := range wrongLengths {
			fails[[]int](t, "Window", api.ErrRange)(chamber.Window(kind, n))
		}
	}
}

// P7.3: Weigh of some responses, with windows and other weights; at the limits, too.
func TestWeigh(t *testing.T) {
	for _, x := range []struct{ h, weights, weighed []int }{
		{nil, nil, nil},
		{list(3, -1), list(64, 32), list(192, -32)},
		{exampleG(), list(25, 51, 51, 25), list(0, 255, -153, 25)},
		{exampleG(), list(0, -2, -3, 4), list(0, -10, 9, 4)},
		{list(level, -level, 1, 1), list(1, 1, level, -level), list(level, -level, level, -level)},
		{list(level, level, -1024), list(0, -1, 1024), list(0, -level, -level)},
		{repeated(level, longest), repeated(-1, longest), repeated(-level, longest)},
		{repeated(-level/64, longest), repeated(64, longest), repeated(-level, longest)},
	} {
		want(t, "Weigh", x.weighed)(chamber.Weigh(x.h, x.weights))
		want(t, "Weigh", x.weighed)(chamber.Weigh(x.weights, x.h))
	}
	for _, h := range someResponses() {
		weights := of[[]int](t)(chamber.Window("ramp", max(len(h), 1)))[:len(h)]
		wanted := make([]int, len(h))
		for i := range h {
			wanted[i] = h[i] * weights[i]
		}
		if isSequence(wanted) {
			want(t, "Weigh", wanted)(chamber.Weigh(h, weights))
		} else {
			fails[[]int](t, "Weigh", api.ErrLarge)(chamber.Weigh(h, weights))
		}
	}
}

// P7.3: the errors of Weigh, in their order.
func TestWrongWeights(t *testing.T) {
	bad := func(h, weights []int, e api.Errno) {
		t.Helper()
		fails[[]int](t, "Weigh", e)(chamber.Weigh(h, weights))
	}
	for _, x := range wrongResponses() {
		bad(x.l, nil, x.e)
		bad(x.l, x.l, x.e)
		bad(x.l, repeated(level+1, longest+1), x.e)
		bad(nil, x.l, x.e)
		bad(list(level, level), x.l, x.e)
	}
	bad(nil, list(1), api.ErrShape)
	bad(list(1), nil, api.ErrShape)
	bad(list(level), list(level, 1), api.ErrShape)
	bad(list(level, 1), list(level), api.ErrShape)
	for _, x := range [][2]int{{level, 2}, {level, -2}, {-level, 2}, {-level, -level}, {level, level}, {level/2 + 1, 2}, {1025, 1024}, {-1025, 1024}} {
		bad(list(x[0]), list(x[1]), api.ErrLarge)
		bad(list(1, x[1], 0), list(1, x[0], 0), api.ErrLarge)
		bad(append(make([]int, longest-1), x[0]), append(make([]int, longest-1), x[1]), api.ErrLarge)
	}
}
