package array_test

import (
	"slices"
	"strings"
	"testing"

	"woofer/api"
	"woofer/array"
)

// parses requires that Parse returns sources.
func parses(t *testing.T, s string, wanted sources) {
	t.Helper()
	l, at, e := array.Parse(s)
	same(t, "Parse of "+s, []any{l, at, e}, []any{wanted, 0, api.OK})
}

// parsesNot requires that Parse returns an error at a line, and no sources.
func parsesNot(t *testing.T, s string, at int, e api.Errno) {
	t.Helper()
	l, gotAt, gotE := array.Parse(s)
	same(t, "Parse of "+short(s), []any{l, gotAt, gotE}, []any{sources{}, at, e})
}

// P6.5: Print and Parse of the same texts.
func TestTexts(t *testing.T) {
	order := array.Source{X: 1, Y: -2, Gain: 30, Phase: 3}
	for _, x := range []struct {
		l    sources
		text string
	}{
		{nil, ""},
		{exampleA(), "source 0 0 1 0\nsource 1 0 1 0\n"},
		{list(order), "source 1 -2 30 3\n"},
		{list(array.Source{}, order, order), "source 0 0 0 0\nsource 1 -2 30 3\nsource 1 -2 30 3\n"},
		{list(array.Source{X: -100, Y: 100, Gain: -100, Phase: 2}), "source -100 100 -100 2\n"},
		{slices.Repeat(list(order), 16), strings.Repeat("source 1 -2 30 3\n", 16)},
	} {
		want(t, "Print", x.text)(array.Print(x.l))
		parses(t, x.text, x.l)
	}
	for _, x := range wrongArrays() {
		fails[string](t, "Print", x.e)(array.Print(x.l))
	}
}

// P6.5: lines that do not have their form; errors of sources, and of later lines, come behind them.
func TestParseSyntax(t *testing.T) {
	good, bad := "source 1 -2 30 3\n", "source 0 0 0 999999999\n"
	for _, line := range []string{
		"", " ", "source", "source ", "source 1 -2 30", "source 1 -2 30 ", " source 1 -2 30 3", "source 1 -2 30 3 ", "source 1 -2 30 3 0", "source 1 -2 30 3 source 1 -2 30 3",
		"source  1 -2 30 3", "source 1  -2 30 3", "source 1 -2 30  3", "source\t1 -2 30 3", "source 1 -2 30\t3", "source 1 -2 30 3\r", "source,1,-2,30,3", "source 1 - 2 30 3",
		"1 -2 30 3", "1 -2 30 3 3", "Source 1 -2 30 3", "sources 1 -2 30 3", "sourc 1 -2 30 3", "source1 -2 30 3", "sourc\u00e9 1 -2 30 3", " 1 -2 30 3", "    ", "source    ", "\x00",
	} {
		for _, before := range []string{"", good, good + good, bad, good + strings.Repeat(bad, 20)} {
			at := strings.Count(before, "\n")
			for _, behind := range []string{"", good, bad, "\n", "x"} {
				parsesNot(t, before+line+"\n"+behind, at, api.ErrSyntax)
			}
		}
	}
	for _, number := range []string{
		"-0", "+1", "+0", "01", "-01", "00", "-00", "--1", "-", "x", "1x", "1-", "1.0", "1e1", "0x1", "1_0", "1000000000", "-1000000000", "0000000001", "99999999999999999999", "", "\u0661", "1,", "½", "\xff",
	} {
		for i := range 4 {
			words := strings.Split("source 1 -2 30 3", " ")
			words[1+i] = number
			parsesNot(t, good+strings.Join(words, " ")+"\n"+good, 1, api.ErrSyntax)
			// Numbers that are not in their range do not come before the form.
			words[1+(i+1)%4] = "-999999999"
			parsesNot(t, bad+strings.Join(words, " ")+"\n", 1, api.ErrSyntax)
		}
	}
}

// P6.5: a line without a line feed at its end.
func TestParseLastLine(t *testing.T) {
	line := "source 1 -2 30 3"
	parsesNot(t, line, 0, api.ErrSyntax)
	parsesNot(t, "x", 0, api.ErrSyntax)
	parsesNot(t, line+"\n"+line, 1, api.ErrSyntax)
	parsesNot(t, line+"\n ", 1, api.ErrSyntax)
	parsesNot(t, line+"\r", 0, api.ErrSyntax)
	parsesNot(t, "\n"+line, 0, api.ErrSyntax)
	parsesNot(t, line+"\n\n", 1, api.ErrSyntax)
}

// P6.5: texts of lists that have an error; the index is the number of lines.
func TestParseSources(t *testing.T) {
	good := "source 1 -2 30 3\n"
	for i := range 4 {
		for _, number := range []string{"101", "-101", "999999999", "-999999999"} {
			words := strings.Split("source 1 -2 30 3", " ")
			words[1+i] = number
			line := strings.Join(words, " ") + "\n"
			parsesNot(t, line, 1, api.ErrRange)
			parsesNot(t, good+line+good, 3, api.ErrRange)
			parsesNot(t, strings.Repeat(good, 16)+line, 17, api.ErrMany)
		}
	}
	parsesNot(t, "source 1 -2 30 4\n", 1, api.ErrRange)
	parsesNot(t, "source 1 -2 30 -1\n", 1, api.ErrRange)
	parsesNot(t, strings.Repeat(good, 17), 17, api.ErrMany)
	parsesNot(t, strings.Repeat("source 101 0 0 0\n", 17), 17, api.ErrMany)
}

// P6.5: the longest strings.
func TestParseLong(t *testing.T) {
	line := "source 10 1 1 1\n" // 16 bytes
	long := strings.Repeat(line, api.MaxText/len(line))
	same(t, "length", len(long), api.MaxText)
	parsesNot(t, long, 256, api.ErrMany)
	parsesNot(t, long+"\n", 0, api.ErrLong)
	parsesNot(t, line+strings.Repeat(" ", api.MaxText-len(line)), 1, api.ErrSyntax)
	parsesNot(t, strings.Repeat("\n", api.MaxText), 0, api.ErrSyntax)
	for _, s := range []string{line + strings.Repeat(" ", api.MaxText), strings.Repeat("\n", api.MaxText+1), strings.Repeat("x", 1000000)} {
		parsesNot(t, s, 0, api.ErrLong)
	}
}
