package signal_test

import (
	"math"
	"slices"
	"strings"
	"testing"

	"woofer/api"
	"woofer/signal"
)

// P1.1: IsName.
func TestIsName(t *testing.T) {
	names := []string{"a", "z", "A", "Z", "hum", "a_9", "aZ09_", "B0", "x_", strings.Repeat("q", 24)}
	for _, s := range names {
		equal(t, s, signal.IsName(s), true)
	}
	others := []string{
		"", "9a", "0", "_a", "_", "a b", " a", "a ", "a-b", "a\n", "a\x00", "a/", "a:", "a@", "a[", "a`", "a{",
		"/", ":", "@", "[", "`", "{", "é", "aé", "a\xff", "\xff", "a\u0661", strings.Repeat("q", 25), strings.Repeat("é", 12),
	}
	for _, s := range others {
		equal(t, s, signal.IsName(s), false)
	}
}

// P1.1: each byte is judged as a byte alone.
func TestIsNameBytes(t *testing.T) {
	const letters = "ABCDEFGHIJKLMNOPQRSTUVWXYZabcdefghijklmnopqrstuvwxyz"
	for c := range 256 {
		s := string([]byte{byte(c)})
		isLetter := strings.Contains(letters, s)
		equal(t, "first byte "+s, signal.IsName(s), isLetter)
		equal(t, "second byte "+s, signal.IsName("a"+s), isLetter || strings.Contains("0123456789_", s))
	}
}

// P1.1: Draw.
func TestDraw(t *testing.T) {
	for _, x := range []struct {
		key, n int
		out    []int
		e      api.Errno
	}{
		{1, 0, nil, api.OK},
		{5, 1, []int{0}, api.OK},
		{1, 3, []int{2, 0, 1}, api.OK},
		{1, 8, []int{6, 2, 5, 4, 1, 7, 3, 0}, api.OK},
		{7, 8, []int{3, 6, 4, 1, 5, 0, 7, 2}, api.OK},
		{2147483646, 8, []int{0, 3, 4, 2, 6, 1, 5, 7}, api.OK},
		{12345, 12, []int{1, 6, 10, 0, 8, 9, 11, 4, 2, 3, 5, 7}, api.OK},
		{0, 3, nil, api.ErrRange},
		{-1, 3, nil, api.ErrRange},
		{2147483647, 3, nil, api.ErrRange},
		{math.MaxInt, 3, nil, api.ErrRange},
		{math.MinInt, 3, nil, api.ErrRange},
		{1, -1, nil, api.ErrRange},
		{1, 257, nil, api.ErrRange},
		{1, math.MaxInt, nil, api.ErrRange},
		{1, math.MinInt, nil, api.ErrRange},
	} {
		l, e := signal.Draw(x.key, x.n)
		equalList(t, "Draw", l, x.out)
		equal(t, "Draw", e, x.e)
	}
}

// P1.1: the longest permutation has each element once, and the elements that the key decides.
func TestDrawLongest(t *testing.T) {
	l, e := signal.Draw(2147483646, api.MaxList)
	equal(t, "Draw", e, api.OK)
	equalList(t, "begin", l[:8], []int{88, 83, 85, 91, 218, 136, 77, 11})
	equalList(t, "end", l[252:], []int{243, 35, 37, 47})
	slices.Sort(l)
	for i, x := range l {
		equal(t, "element", x, i)
	}
}

// P1.1: CheckRatio.
func TestCheckRatio(t *testing.T) {
	const most = api.MaxNumber
	for _, x := range []struct {
		num, den int
		e        api.Errno
	}{
		{1, 2, api.OK}, {0, 1, api.OK}, {-3, 4, api.OK}, {7, 1, api.OK}, {-7, 1, api.OK},
		{most, 1, api.OK}, {-most, 1, api.OK}, {1, most, api.OK}, {most, most - 1, api.OK},
		{0, 2, api.ErrForm}, {0, most, api.ErrForm}, {2, 4, api.ErrForm}, {-2, 4, api.ErrForm}, {6, 3, api.ErrForm},
		{-6, 3, api.ErrForm}, {10, 15, api.ErrForm}, {most, most, api.ErrForm}, {-most, most, api.ErrForm},
		{1, 0, api.ErrRange}, {0, 0, api.ErrRange}, {1, -1, api.ErrRange}, {2, -4, api.ErrRange}, {1, most + 1, api.ErrRange},
		{most + 1, 1, api.ErrRange}, {-most - 1, 1, api.ErrRange}, {most + 1, 2, api.ErrRange}, {2, most + 1, api.ErrRange},
		{math.MaxInt, 1, api.ErrRange}, {math.MinInt, 1, api.ErrRange}, {math.MinInt, math.MinInt, api.ErrRange}, {1, math.MinInt, api.ErrRange},
	} {
		r := api.Ratio{Num: x.num, Den: x.den}
		if e := signal.CheckRatio(r); e != x.e {
			t.Errorf("CheckRatio %v: got %v, want %v", r, e, x.e)
		}
	}
}

// P1.1: CheckSample.
func TestCheckSample(t *testing.T) {
	for _, x := range []struct {
		x float32
		e api.Errno
	}{
		{0, api.OK}, {minus, api.OK}, {0.0625, api.OK}, {-0.0625, api.OK}, {2048, api.OK}, {-2048, api.OK},
		{2047.9375, api.OK}, {-2047.9375, api.OK}, {100.1875, api.OK},
		{0.03125, api.ErrRange}, {-0.03125, api.ErrRange}, {1.03125, api.ErrRange}, {0.01, api.ErrRange},
		{2048.0625, api.ErrRange}, {-2048.0625, api.ErrRange}, {math.MaxFloat32, api.ErrRange}, {-math.MaxFloat32, api.ErrRange},
		{math.SmallestNonzeroFloat32, api.ErrRange}, {-math.SmallestNonzeroFloat32, api.ErrRange}, {2047.9376, api.ErrRange},
		{nan, api.ErrForm}, {infinite, api.ErrForm}, {-infinite, api.ErrForm},
	} {
		if e := signal.CheckSample(x.x); e != x.e {
			t.Errorf("CheckSample %v: got %v, want %v", x.x, e, x.e)
		}
	}
}

// P1.1: CheckRecord.
func TestCheckRecord(t *testing.T) {
	for _, r := range []signal.Record{
		hum(), record(),
		{Name: "a", Rate: 1},
		{Name: strings.Repeat("q", api.MaxName), Rate: signal.MaxRate},
		record(repeated(float32(-2048), api.MaxLength)...),
		record(minus, 0),
	} {
		equal(t, r.Name, signal.CheckRecord(r), api.OK)
	}
	for _, x := range wrongRecords() {
		equal(t, x.what, signal.CheckRecord(x.r), x.e)
	}
}
