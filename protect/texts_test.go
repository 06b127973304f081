package protect_test

import (
	"strings"
	"testing"

	"woofer/api"
	"woofer/protect"
)

// P8.4: Print and Parse of the chapter's example, and of others; at the limits, too.
func TestTexts(t *testing.T) {
	for _, x := range []struct {
		g    guard
		text string
	}{
		{exampleG(), "guard 1 100 20 taps 1 2 gains 0 8 16"},
		{guard{Leak: 8, Heat: 0, Taps: list(0), Reach: 0, Gains: list(0)}, "guard 8 0 0 taps 0 gains 0"},
		{guard{Leak: 2, Heat: 3, Taps: list(-4, 5, -6), Reach: 7, Gains: list(0, 9)}, "guard 2 3 7 taps -4 5 -6 gains 0 9"},
		{
			guard{Leak: 8, Heat: protect.MaxHeat, Taps: repeated(-64, 8), Reach: protect.MaxReach, Gains: list(0, 10, 11, 12, 13, 14, 15, 16)},
			"guard 8 536870912 1048576 taps -64 -64 -64 -64 -64 -64 -64 -64 gains 0 10 11 12 13 14 15 16",
		},
	} {
		want(t, "Print", x.text)(protect.Print(x.g))
		want(t, "Parse", x.g)(protect.Parse(x.text))
	}
	for _, x := range wrongGuards() {
		fails[string](t, "Print", x.e)(protect.Print(x.g))
	}
}

// P8.4: strings that do not have the form of a text; the form comes before the errors of a guard.
func TestWrongTexts(t *testing.T) {
	for _, s := range []string{
		"", " ", "\n", "guard", "guard ", "taps", "gains", "guard taps gains", "guard 1 100 taps 1 gains 0", "guard 1 100 20 7 taps 1 gains 0",
		"guard 1 100 20", "guard 1 100 20 taps", "guard 1 100 20 taps 1 2", "guard 1 100 20 gains 0 8 16", "guard 1 100 20 gains 0 taps 1",
		"guard 1 100 20 taps 1 2 gains 0 8 16 ", " guard 1 100 20 taps 1 2 gains 0 8 16", "guard 1 100 20 taps 1 2 gains 0 8 16\n",
		"guard  1 100 20 taps 1 2 gains 0", "guard 1 100 20 taps  1 2 gains 0", "guard 1 100 20 taps 1 2  gains 0", "guard 1 100 20 taps 1 2 gains  0",
		"guard 1 100 20 taps 1 2 gains ", "guard 1 100 20 taps  gains 0", "guard 1 100 20\ttaps 1 gains 0", "guard 1 100 20\ntaps 1\ngains 0\n",
		"1 100 20 taps 1 2 gains 0", "7 guard 1 100 20 taps 1 gains 0", "1 2 3 taps 1 gains 0", "guard 1 100 20 1 2 gains 0", "guard 1 100 20 taps 1 2 0 8 16",
		"Guard 1 100 20 taps 1 gains 0", "guard 1 100 20 Taps 1 gains 0", "guard 1 100 20 taps 1 GAINS 0", "guards 1 100 20 taps 1 gains 0",
		"guard guard 1 100 20 taps 1 gains 0", "guard 1 100 20 taps 1 taps 1 gains 0", "guard 1 100 20 taps 1 gains 0 gains", "guard 1 100 20 taps 1 gains 0 x",
		"guard 1 100 20 taps 1 gains 0 guard 1 100 20 taps 1 gains 0", "guard 1 100 taps 20 1 gains 0", "guard 1 taps 100 20 gains 0",
		// With errors of guards before.
		"guard 9 100 20 taps 1 gains 0 ", "guard 9 100 20 taps gains ", "guard 1 100 20 taps gains 0 x", "guard 1 100 20 taps 99 gains 1 8 -0",
	} {
		fails[guard](t, "Parse of "+s, api.ErrSyntax)(protect.Parse(s))
	}
	for _, number := range []string{
		"-0", "+1", "+0", "01", "-01", "00", "-00", "--1", "-", "x", "1x", "1-", "1.0", "1e1", "0x1", "1_0", "1000000000", "-1000000000", "0000000001",
		"99999999999999999999", "", "\u0661", "1,", "½", "\xff", "1\x00", "\u2212" + "1",
	} {
		text := strings.Split("guard 1 100 20 taps 1 2 gains 0 8 16", " ")
		for _, i := range []int{1, 2, 3, 5, 6, 8, 9, 10} {
			words := append([]string{}, text...)
			words[i] = number
			fails[guard](t, "Parse with "+number, api.ErrSyntax)(protect.Parse(strings.Join(words, " ")))
		}
	}
}

// P8.4: texts whose guards have an error.
func TestTextsOfWrongGuards(t *testing.T) {
	for s, e := range map[string]api.Errno{
		"guard 9 100 20 taps gains":                         api.ErrRange,
		"guard 1 100 20 taps gains":                         api.ErrEmpty,
		"guard 1 100 20 taps gains 0":                       api.ErrEmpty,
		"guard 1 100 20 taps 1 gains":                       api.ErrEmpty,
		"guard 1 100 -1 taps 1 gains":                       api.ErrRange,
		"guard 0 100 20 taps 1 gains 0":                     api.ErrRange,
		"guard -1 100 20 taps 1 gains 0":                    api.ErrRange,
		"guard 1 536870913 20 taps 1 gains 0":               api.ErrRange,
		"guard 1 999999999 20 taps 1 gains 0":               api.ErrRange,
		"guard 1 100 1048577 taps 1 gains 0":                api.ErrRange,
		"guard 1 100 20 taps 65 gains 0":                    api.ErrRange,
		"guard 1 100 20 taps 0 -65 gains 0":                 api.ErrRange,
		"guard 1 100 20 taps 1 2 3 4 5 6 7 8 9 gains 0":     api.ErrMany,
		"guard 1 100 20 taps 1 gains 0 1 2 3 4 5 6 7 8":     api.ErrMany,
		"guard 1 100 20 taps 1 gains 1 8 16":                api.ErrOrder,
		"guard 1 100 20 taps 1 gains 0 8 8":                 api.ErrOrder,
		"guard 1 100 20 taps 1 gains 0 8 17":                api.ErrRange,
		"guard 1 100 20 taps 1 gains 0 -8":                  api.ErrRange,
		"guard 1 100 20 taps 1 gains 999999999 -999999999":  api.ErrRange,
		"guard 1 100 20 taps -999999999 gains 1":            api.ErrRange,
		"guard 1 100 20 taps" + strings.Repeat(" 0", 1000):  api.ErrSyntax,
		"guard 1 1 1 taps" + strings.Repeat(" 0", 999):      api.ErrSyntax,
		"guard 1 1 1 taps" + strings.Repeat(" 0", 9) + " x": api.ErrSyntax,
	} {
		fails[guard](t, "Parse of "+short(s), e)(protect.Parse(s))
	}
}

// P8.4: strings of the greatest length, and beyond it.
func TestLongTexts(t *testing.T) {
	head := "guard 1 100 20 taps 10 gains"
	long := head + strings.Repeat(" 0", (api.MaxText-len(head))/2)
	same(t, "length", len(long), api.MaxText)
	for s, e := range map[string]api.Errno{
		long:                               api.ErrMany,
		long[1:]:                           api.ErrSyntax,
		long + "0":                         api.ErrLong,
		long + " ":                         api.ErrLong,
		long[:api.MaxText-1] + " ":         api.ErrSyntax,
		strings.Repeat("x", api.MaxText):   api.ErrSyntax,
		strings.Repeat("x", api.MaxText+1): api.ErrLong,
		strings.Repeat(" ", api.MaxText):   api.ErrSyntax,
		strings.Repeat(" ", api.MaxLog):    api.ErrLong,
	} {
		fails[guard](t, "Parse", e)(protect.Parse(s))
	}
}
