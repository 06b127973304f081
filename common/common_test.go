package common_test

import (
	"math"
	"slices"
	"strconv"
	"testing"

	"woofer/api"
	"woofer/common"
)

// equal compares a result with the expected one.
func equal[T comparable](t *testing.T, what string, got, wanted T) {
	t.Helper()
	if got != wanted {
		t.Errorf("%s: got %v, want %v", what, got, wanted)
	}
}

func TestErrors(t *testing.T) {
	equal(t, "no error", common.First(), api.OK)
	equal(t, "only OK", common.First(api.OK, api.OK), api.OK)
	equal(t, "two errors", common.First(api.OK, api.ErrZero, api.ErrForm), api.ErrZero)
	equal(t, "it applies", common.When(true, api.ErrForm), api.ErrForm)
	equal(t, "it does not", common.When(false, api.ErrForm), api.OK)
	for _, x := range []struct {
		n int
		e api.Errno
	}{{1, api.ErrRange}, {2, api.OK}, {3, api.OK}, {4, api.ErrRange}, {math.MinInt, api.ErrRange}, {math.MaxInt, api.ErrRange}} {
		equal(t, "CheckRange", common.CheckRange(x.n, 2, 3), x.e)
		equal(t, "Within", common.Within(x.n, 2, 3), x.e == api.OK)
	}
	equal(t, "NaN", common.Within(math.NaN(), -1, 1), false)
}

func TestMapped(t *testing.T) {
	double := func(n int) float64 { return 2 * float64(n) }
	equal(t, "Mapped", slices.Equal(common.Mapped([]int{1, 2, -3}, double), []float64{2, 4, -6}), true)
	equal(t, "Mapped of nothing", len(common.Mapped(nil, double)), 0)
}

func TestFiltered(t *testing.T) {
	isEven := func(n int) bool { return n%2 == 0 }
	equal(t, "Filtered", slices.Equal(common.Filtered([]int{4, 1, -2, 4, 3}, isEven), []int{4, -2, 4}), true)
	equal(t, "Filtered of odd ones", len(common.Filtered([]int{1, 3}, isEven)), 0)
	equal(t, "Filtered of nothing", len(common.Filtered(nil, isEven)), 0)
	list := []int{1, 2}
	common.Filtered(list, isEven)[0] = 9
	equal(t, "the list behind a change of the result", slices.Equal(list, []int{1, 2}), true)
}

func TestWords(t *testing.T) {
	for _, x := range []struct {
		text  string
		words []string
	}{
		{"", []string{""}},
		{"a", []string{"a"}},
		{"a bc d", []string{"a", "bc", "d"}},
		{" a  b ", []string{"", "a", "", "b", ""}},
	} {
		words := common.Split(x.text, " ")
		for _, wanted := range x.words {
			equal(t, "Ended", words.Ended(), false)
			equal(t, "Next", words.Next(), wanted)
		}
		for range 3 {
			equal(t, "Ended behind the last word", words.Ended(), true)
			equal(t, "Next behind the last word", words.Next(), "")
		}
	}
}

func TestIntegers(t *testing.T) {
	for _, x := range []struct {
		word              string
		n                 int
		isInteger, isBare bool
	}{
		{"0", 0, true, true},
		{"7", 7, true, true},
		{"999999999", 999999999, true, true},
		{"-1", -1, true, false},
		{"-999999999", -999999999, true, false},
		{"", 0, false, false},
		{"-", 0, false, false},
		{"-0", 0, false, false},
		{"+1", 0, false, false},
		{"01", 0, false, false},
		{"-01", 0, false, false},
		{"1 ", 0, false, false},
		{"00", 0, false, false},
		{"--1", 0, false, false},
		{"-x", 0, false, false},
		{"1-", 0, false, false},
		{"0000000001", 0, false, false},
		{"\u0661", 0, false, false},
		{"1\xff", 0, false, false},
		{"1_0", 0, false, false},
		{"0x1", 0, false, false},
		{"1000000000", 0, false, false},
		{"-1000000000", 0, false, false},
		{"99999999999999999999", 0, false, false},
	} {
		n, ok := common.Integer(x.word)
		equal(t, "Integer of "+x.word, n, x.n)
		equal(t, "Integer of "+x.word, ok, x.isInteger)
		n, ok = common.Natural(x.word)
		equal(t, "Natural of "+x.word, n, max(x.n, 0))
		equal(t, "Natural of "+x.word, ok, x.isBare)
	}
}

func TestLines(t *testing.T) {
	equal(t, "Line", common.Line("a", "bc"), "a bc\n")
	equal(t, "Line of one word", common.Line("a"), "a\n")
	for _, x := range []struct {
		text  string
		words []string // each with the index of its line
		count int
		ok    bool
	}{
		{"", nil, 0, true},
		{"\n", []string{"0", "0"}, 0, false},
		{"a bc\n", []string{"0a", "0bc"}, 1, true},
		{"a b\nc d\n", []string{"0a", "0b", "1c", "1d"}, 2, true},
		{"a b", nil, 0, false},
		{"a b\nc d", []string{"0a", "0b"}, 1, false},
		{"a b\nc\nd e\n", []string{"0a", "0b", "1c", "1"}, 1, false},
		{"a b\nc d e\nf g\n", []string{"0a", "0b", "1c", "1d"}, 1, false},
		{"a \nb c\n", []string{"0a", "0"}, 0, false},
		{"a b\n\n", []string{"0a", "0b", "1", "1"}, 1, false},
	} {
		var words []string
		count, ok := common.ReadLines(x.text, func(i int, next func() string) bool {
			first := next()
			second := next()
			words = append(words, strconv.Itoa(i)+first, strconv.Itoa(i)+second)
			return first != "" && second != ""
		})
		equal(t, "lines of "+x.text, count, x.count)
		equal(t, "lines of "+x.text, ok, x.ok)
		equal(t, "words of "+x.text, slices.Equal(words, x.words), true)
	}
}

// A reader that takes the words up to the first empty one is not told of a blank at the end of a line.
func TestLinesOfAllWords(t *testing.T) {
	for _, x := range []struct {
		text  string
		count int
		ok    bool
	}{
		{"", 0, true},
		{"a\nb c d\n", 2, true},
		{"a \n", 0, false},
		{"a\nb c  \n", 1, false},
		{"a\nb  c\n", 1, false},
		{"a\n b\nc\n", 1, false},
		{"a\nb ", 1, false},
		{"a\n \n", 1, false},
	} {
		count, ok := common.ReadLines(x.text, func(_ int, next func() string) bool {
			for word := next(); word != ""; word = next() {
			}
			return true
		})
		equal(t, "lines of "+x.text, count, x.count)
		equal(t, "lines of "+x.text, ok, x.ok)
	}
}

func TestParseList(t *testing.T) {
	// A line is two words that are alike; a list has at most two of them, and none is "bad".
	read := func(next func() string) (string, bool) {
		first := next()
		return first, next() == first
	}
	check := func(list []string) api.Errno {
		return common.First(common.When(len(list) > 2, api.ErrMany), common.When(slices.Contains(list, "bad"), api.ErrName))
	}
	for _, x := range []struct {
		text string
		list []string
		at   int
		e    api.Errno
	}{
		{"", nil, 0, api.OK},
		{"a a\nbc bc\n", []string{"a", "bc"}, 0, api.OK},
		{"a a\na b\nb\n", nil, 1, api.ErrSyntax},
		{"a a\na a", nil, 1, api.ErrSyntax},
		{"a a \n", nil, 0, api.ErrSyntax},
		{"a a\nbad bad\n", nil, 2, api.ErrName},
		{"bad bad\na b\n", nil, 1, api.ErrSyntax},
		{"a a\na a\na a\n", nil, 3, api.ErrMany},
		{"a a\na a\n.............", nil, 0, api.ErrLong},
		{"a a\na a\n............", nil, 2, api.ErrSyntax},
	} {
		list, at, e := common.ParseList(x.text, 20, read, check)
		equal(t, "ParseList of "+x.text, slices.Equal(list, x.list), true)
		equal(t, "line of "+x.text, at, x.at)
		equal(t, "error of "+x.text, e, x.e)
	}
}

func TestAbsolute(t *testing.T) {
	for _, x := range [][2]int{{0, 0}, {1, 1}, {-1, 1}, {math.MaxInt, math.MaxInt}, {-math.MaxInt, math.MaxInt}} {
		equal(t, "Absolute", common.Absolute(x[0]), x[1])
	}
}

func TestGauss(t *testing.T) {
	a, b := api.Gauss{Re: 2, Im: -3}, api.Gauss{Re: 5, Im: 7}
	equal(t, "Plus", common.Plus(a, b), api.Gauss{Re: 7, Im: 4})
	equal(t, "Minus", common.Minus(a, b), api.Gauss{Re: -3, Im: -10})
	equal(t, "Times", common.Times(a, b), api.Gauss{Re: 31, Im: -1})
	equal(t, "Conjugate", common.Conjugate(a), api.Gauss{Re: 2, Im: 3})
	equal(t, "Square", common.Square(a), 13)
}

func TestRatios(t *testing.T) {
	for _, x := range [][2]api.Ratio{
		{{Num: 6, Den: 4}, {Num: 3, Den: 2}},
		{{Num: -6, Den: 4}, {Num: -3, Den: 2}},
		{{Num: 0, Den: 9}, {Num: 0, Den: 1}},
		{{Num: 5, Den: 7}, {Num: 5, Den: 7}},
		{{Num: 8, Den: 2}, {Num: 4, Den: 1}},
	} {
		equal(t, "Lowest", common.Lowest(x[0]), x[1])
	}
	const most = math.MaxInt
	ascending := []api.Ratio{
		{Num: 0, Den: 1}, {Num: 1, Den: most}, {Num: 1, Den: most - 1}, {Num: 1, Den: 2}, {Num: most - 2, Den: most - 1}, {Num: most - 1, Den: most},
		{Num: 1, Den: 1}, {Num: most, Den: most - 1}, {Num: most, Den: 2}, {Num: most - 1, Den: 1}, {Num: most, Den: 1},
	}
	for i, x := range ascending {
		for k, y := range ascending {
			wanted := 0
			if i != k {
				wanted = (i - k) / max(i-k, k-i)
			}
			equal(t, "Compare", common.Compare(x, y), wanted)
		}
	}
}
