package line_test

import (
	"strconv"
	"strings"
	"testing"

	"woofer/api"
	"woofer/line"
)

// parses requires that Parse returns units.
func parses(t *testing.T, s string, wanted []unit) {
	t.Helper()
	l, at, e := line.Parse(s)
	same(t, "Parse of "+short(s), []any{l, at, e}, []any{wanted, 0, api.OK})
}

// parsesNot requires that Parse returns an error at a line, and no units.
func parsesNot(t *testing.T, s string, at int, e api.Errno) {
	t.Helper()
	l, gotAt, gotE := line.Parse(s)
	same(t, "Parse of "+short(s), []any{l, gotAt, gotE}, []any{[]unit(nil), at, e})
}

// P9.5: Print and Parse of the same texts.
func TestTexts(t *testing.T) {
	const most = line.MaxValue
	for _, x := range []struct {
		l    []unit
		text string
	}{
		{nil, ""},
		{exampleU(), "a 10 20\nb 12 20\nc 11 26\nd 30 20\n"},
		{exampleU()[2:3], "c 11 26\n"},
		{list(measured("Z_9", 0)), "Z_9 0\n"},
		{list(measured("a", -1), measured("A", 1)), "a -1\nA 1\n"},
		{list(measured("x", -most, most, 0, -7)), "x -100000 100000 0 -7\n"},
		{list(measured(strings.Repeat("n", 24), repeated(-9, line.MaxTests)...)), strings.Repeat("n", 24) + strings.Repeat(" -9", 16) + "\n"},
	} {
		want(t, "Print", x.text)(line.Print(x.l))
		parses(t, x.text, x.l)
	}
	for _, x := range wrongLists() {
		fails[string](t, "Print", x.e)(line.Print(x.l))
	}
}

// P9.5: lines that do not have their form; errors of units, and of later lines, come behind them.
func TestParseSyntax(t *testing.T) {
	good, bad := "r 2 0\n", "1 999999999\n"
	for _, text := range []string{
		"", " ", "a", "a ", " a", "a  ", "a 1 ", "a 1  ", " a 1", "a  1", "a 1  2", "a 1 2 ", "a\t1", "a 1\t2", "a 1\r", "1", "-1", " 1", " 1 2", "  1 2",
		"a b", "a b 1", "a 1 b", "a 1 2 b", "a:1", "a,1", "a 1,2", "a 1;", "\x00", "a \x00", "a\x001",
	} {
		for _, before := range []string{"", good, good + good, bad, good + strings.Repeat(bad, 20)} {
			at := strings.Count(before, "\n")
			for _, behind := range []string{"", good, bad, "\n", "x"} {
				parsesNot(t, before+text+"\n"+behind, at, api.ErrSyntax)
			}
		}
	}
	for _, number := range []string{
		"+1", "+0", "-0", "01", "-01", "00", "-00", "--1", "-", "x", "1x", "1-", "1.0", "1e1", "0x1", "1_0", "1000000000", "-1000000000", "0000000001",
		"99999999999999999999", "", "\u0661", "1,", "½", "\xff", "\u2212" + "1",
	} {
		for i := range 3 {
			words := strings.Split("1 -2 3", " ")
			words[i] = number
			parsesNot(t, good+"c "+strings.Join(words, " ")+"\n"+good, 1, api.ErrSyntax)
			// Numbers that are not in their range do not come before the form.
			words[(i+1)%3] = "999999999"
			parsesNot(t, bad+"c "+strings.Join(words, " ")+"\n", 1, api.ErrSyntax)
		}
		parsesNot(t, "c "+number+"\n", 0, api.ErrSyntax)
	}
}

// P9.5: a line without a line feed at its end.
func TestParseLastLine(t *testing.T) {
	parsesNot(t, "c 1 2", 0, api.ErrSyntax)
	parsesNot(t, "x", 0, api.ErrSyntax)
	parsesNot(t, "c 1 2\nd 1 2", 1, api.ErrSyntax)
	parsesNot(t, "c 1 2\n ", 1, api.ErrSyntax)
	parsesNot(t, "c 1 2\nd 1 2\r", 1, api.ErrSyntax)
	parsesNot(t, "\nc 1 2", 0, api.ErrSyntax)
	parsesNot(t, "c 1 2\n\n", 1, api.ErrSyntax)
	parsesNot(t, "\n", 0, api.ErrSyntax)
}

// P9.5: texts of lists that are no units; the index is the number of lines.
func TestParseWrongUnits(t *testing.T) {
	for _, x := range []struct {
		s  string
		at int
		e  api.Errno
	}{
		{"1 1\n", 1, api.ErrName},
		{"-1 1\n", 1, api.ErrName},
		{"\r 1\n", 1, api.ErrName},
		{"c\xff 1\n", 1, api.ErrName},
		{"a\t1 2\n", 1, api.ErrName},
		{strings.Repeat("a", 25) + " 1\n", 1, api.ErrName},
		{"a" + strings.Repeat(" 1", 17) + "\n", 1, api.ErrMany},
		{"a" + strings.Repeat(" 1", 9999) + "\n", 1, api.ErrMany},
		{"a 100001\n", 1, api.ErrRange},
		{"a 0 -100001\n", 1, api.ErrRange},
		{"a 999999999\n", 1, api.ErrRange},
		{"a -999999999\nb 1\n", 2, api.ErrRange},
		{"a 1\nb 1 2\n", 2, api.ErrShape},
		{"a 1 2\nb 1\nc 1 2\n", 3, api.ErrShape},
		{"a 1 2\nb 1 3\na 1 2\n", 3, api.ErrTwice},
		{"a 1\na 1\n9 1\n", 3, api.ErrTwice},
		{strings.Repeat("9 1\n", 65), 65, api.ErrMany},
		{strings.Repeat("9 1\n", 64), 64, api.ErrName},
		{strings.Repeat("a 1\n", 64), 64, api.ErrTwice},
		{strings.Repeat("1 999999999 2\n", 70000), 70000, api.ErrMany},
	} {
		parsesNot(t, x.s, x.at, x.e)
	}
	var most strings.Builder
	for i := range line.MaxUnits {
		most.WriteString("u" + strconv.Itoa(i) + " " + strconv.Itoa(-i) + "\n")
	}
	parses(t, most.String(), numbered(line.MaxUnits, func(i int) []int { return list(-i) }))
	parsesNot(t, most.String()+"v 1\n", line.MaxUnits+1, api.ErrMany)
}

// P9.5: the longest strings.
func TestParseLong(t *testing.T) {
	rest := " 1 2\n"
	long := strings.Repeat("c", api.MaxLog-len(rest)) + rest
	parsesNot(t, long, 1, api.ErrName)
	parsesNot(t, "a"+strings.Repeat(" 1", (api.MaxLog-2)/2)+"\n", 1, api.ErrMany)
	parsesNot(t, strings.Repeat("\n", api.MaxLog), 0, api.ErrSyntax)
	parsesNot(t, "c"+rest+strings.Repeat(" ", api.MaxLog-len(rest)-1), 1, api.ErrSyntax)
	for _, s := range []string{"c" + long, strings.Repeat("\n", api.MaxLog+1), "c" + rest + strings.Repeat("x", api.MaxLog)} {
		parsesNot(t, s, 0, api.ErrLong)
	}
}
