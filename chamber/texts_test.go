package chamber_test

import (
	"strings"
	"testing"

	"woofer/api"
	"woofer/chamber"
)

// P7.6: Print and Parse of some responses; at the limits, too.
func TestTexts(t *testing.T) {
	for _, x := range []struct {
		h    []int
		text string
	}{
		{nil, ""},
		{exampleH(), "3 -1"},
		{list(0), "0"},
		{list(0, 5, -3, 1), "0 5 -3 1"},
		{list(10, -10, 100), "10 -10 100"},
		{list(level, -level), "1048576 -1048576"},
		{make([]int, longest), "0" + strings.Repeat(" 0", longest-1)},
		{repeated(-level, longest), "-1048576" + strings.Repeat(" -1048576", longest-1)},
	} {
		want(t, "Print", x.text)(chamber.Print(x.h))
		want(t, "Parse", x.h)(chamber.Parse(x.text))
	}
	for _, x := range wrongResponses() {
		fails[string](t, "Print", x.e)(chamber.Print(x.l))
	}
}

// P7.6: strings that are no texts of integers.
func TestWrongTexts(t *testing.T) {
	for _, s := range []string{
		" ", "  ", " 1", "1 ", "1  2", "\n", "1\n", "1 2\n", "1\n2", "1\t2", "1,2", "-", "- 1", "--1", "+1", "-0", "0 -0", "00", "01", "-01", "1 007", "0x1", "1.0", "1e3",
		"a", "1 a", "a 1", "1 2a", "1_0", "\x00", "\xff", "1 \xff", "\u0661", "1\u00a02", "\u2212", "response 1",
		"1000000000", "-1000000000", "0000000001", "1 99999999999999999999 2", "-9223372036854775808",
		// The form comes before the number of elements, and before what is too large.
		"1048577 x", strings.Repeat("7 ", longest+1), "1048577 1048577 ",
	} {
		fails[[]int](t, "Parse of "+s, api.ErrSyntax)(chamber.Parse(s))
	}
}

// P7.6: texts of integers that are no responses.
func TestTextsOfOthers(t *testing.T) {
	for _, s := range []string{"1048577", "-1048577", "999999999", "-999999999", "1 2 1048577 3", "0 -1048577"} {
		fails[[]int](t, "Parse of "+s, api.ErrRange)(chamber.Parse(s))
	}
	for _, n := range []string{"0", "-1048576", "1048577"} {
		fails[[]int](t, "Parse", api.ErrMany)(chamber.Parse(n + strings.Repeat(" "+n, longest)))
	}
}

// P7.6: strings of the greatest length, and beyond it.
func TestLongTexts(t *testing.T) {
	sevens := strings.Repeat("7 ", api.MaxText/2-1)
	for s, e := range map[string]api.Errno{
		sevens + "77":                        api.ErrMany,
		sevens + "7 ":                        api.ErrSyntax,
		sevens + "777":                       api.ErrLong,
		sevens + "7 7":                       api.ErrLong,
		strings.Repeat("x", api.MaxText):     api.ErrSyntax,
		strings.Repeat("x", api.MaxText+1):   api.ErrLong,
		strings.Repeat("7", api.MaxText):     api.ErrSyntax,
		strings.Repeat(" ", api.MaxLog+1000): api.ErrLong,
	} {
		fails[[]int](t, "Parse", e)(chamber.Parse(s))
	}
}
