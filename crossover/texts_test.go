package crossover_test

import (
	"strings"
	"testing"

	"woofer/api"
	"woofer/crossover"
)

// parses requires that Parse returns a catalogue.
func parses(t *testing.T, s string, wanted []crossover.Part) {
	t.Helper()
	l, at, e := crossover.Parse(s)
	same(t, "Parse of "+s, []any{l, at, e}, []any{wanted, 0, api.OK})
}

// parsesNot requires that Parse returns an error at a line, and no catalogue.
func parsesNot(t *testing.T, s string, at int, e api.Errno) {
	t.Helper()
	l, gotAt, gotE := crossover.Parse(s)
	what := s[:min(len(s), 60)]
	same(t, "Parse of "+what, []any{l, gotAt, gotE}, []any{list(), at, e})
}

// P4.1: Print and Parse of the same texts.
func TestTexts(t *testing.T) {
	for _, x := range []struct {
		l    []crossover.Part
		text string
	}{
		{nil, ""},
		{exampleK()[1:2], "c shunt 0 1 0 0 5 1\n"},
		{exampleK(), "r series 2 0 0 0 3 2\nc shunt 0 1 0 0 5 1\nd shunt 0 1 0 1 4 1\n"},
		{list(priced(part("a_9", trap(7, 6), 1, 0), 1000000, 100), priced(part("Z", block(8, 8), 0, 0), 10, 0)), "a_9 trap 7 6 1 0 1000000 100\nZ block 8 8 0 0 10 0\n"},
	} {
		want(t, "Print", x.text)(crossover.Print(x.l))
		parses(t, x.text, x.l)
	}
	for _, x := range wrongCatalogues() {
		fails[string](t, "Print: "+x.what, x.e)(crossover.Print(x.l))
	}
}

// P4.1: lines that do not have their form; errors of parts, and of later lines, come behind them.
func TestParseSyntax(t *testing.T) {
	good, bad := "r series 2 0 0 0 3 2\n", "1 coil 9 9 9 9 0 101\n"
	for _, line := range []string{
		"", " ", "c", "c shunt", "c shunt 0", "c shunt 0 1 0 0 5", "c shunt 0 1 0 0 5 ", "c shunt 0 1 0 0 5 1 ", "c shunt 0 1 0 0 5 1 1", " c shunt 0 1 0 0 5 1",
		"c  shunt 0 1 0 0 5 1", "c  0 1 0 0 5 1", " shunt 0 1 0 0 5 1", "c shunt  0 1 0 0 5 1", "c shunt 0 1  0 0 5 1", "c\tshunt 0 1 0 0 5 1", "c shunt 0 1 0 0 5\t1",
		"c shunt 0 1 0 0 5 1\r", "shunt 0 1 0 0 5 1", "c 0 1 0 0 5 1", "c:shunt:0:1:0:0:5:1", "c d shunt 0 1 0 0 5 1", "       ", "c shunt 0 1 0 0 5 1c", "\x00",
	} {
		for _, before := range []string{"", good, good + good, bad, good + strings.Repeat(bad, 20)} {
			at := strings.Count(before, "\n")
			for _, behind := range []string{"", good, bad, "\n", "x"} {
				parsesNot(t, before+line+"\n"+behind, at, api.ErrSyntax)
			}
		}
	}
	for _, number := range []string{
		"-1", "+1", "-0", "01", "00", "x", "1x", "1.0", "1e1", "0x1", "1_0", "1000000000", "0000000001", "99999999999999999999", "", "\u0661", "1,", "½", "\xff",
	} {
		for i := range 6 {
			words := strings.Split("0 1 0 0 5 1", " ")
			words[i] = number
			parsesNot(t, good+"c shunt "+strings.Join(words, " ")+"\n"+good, 1, api.ErrSyntax)
			// Numbers that are not in their range do not come before the form.
			words[(i+1)%6] = "999999999"
			parsesNot(t, bad+"c shunt "+strings.Join(words, " ")+"\n", 1, api.ErrSyntax)
		}
	}
}

// P4.1: a line without a line feed at its end.
func TestParseLastLine(t *testing.T) {
	line := "c shunt 0 1 0 0 5 1"
	parsesNot(t, line, 0, api.ErrSyntax)
	parsesNot(t, "x", 0, api.ErrSyntax)
	parsesNot(t, line+"\n"+line, 1, api.ErrSyntax)
	parsesNot(t, line+"\n ", 1, api.ErrSyntax)
	parsesNot(t, line+"\r", 0, api.ErrSyntax)
	parsesNot(t, "\n"+line, 0, api.ErrSyntax)
	parsesNot(t, line+"\n\n", 1, api.ErrSyntax)
}

// P4.1: texts of lists that are no catalogues; the index is the number of lines.
func TestParseCatalogues(t *testing.T) {
	good := "r series 2 0 0 0 3 2\n"
	for _, x := range []struct {
		s  string
		at int
		e  api.Errno
	}{
		{"1 shunt 0 1 0 0 5 1\n", 1, api.ErrName},
		{"\r shunt 0 1 0 0 5 1\n", 1, api.ErrName},
		{"c\xff shunt 0 1 0 0 5 1\n", 1, api.ErrName},
		{"c Shunt 0 1 0 0 5 1\n", 1, api.ErrKind},
		{"c 1 0 1 0 0 5 1\n", 1, api.ErrKind},
		{"c trap 0 0 0 0 5 1\n", 1, api.ErrZero},
		{"c shunt 9 1 0 0 5 1\n", 1, api.ErrRange},
		{"c shunt 0 999999999 0 0 5 1\n", 1, api.ErrRange},
		{"c shunt 0 1 2 0 5 1\n", 1, api.ErrRange},
		{"c shunt 0 1 0 2 5 1\n", 1, api.ErrRange},
		{"c shunt 0 1 0 0 0 1\n", 1, api.ErrRange},
		{"c shunt 0 1 0 0 1000001 1\n", 1, api.ErrRange},
		{"c shunt 0 1 0 0 5 101\n", 1, api.ErrRange},
		{"c shunt 0 1 1 0 5 1\n", 1, api.ErrForm},
		{good + good, 2, api.ErrTwice},
		{good + "1 shunt 0 1 0 0 5 1\n" + good, 3, api.ErrName},
		{good + "c shunt 0 1 0 0 5 1\n" + good + "1 shunt 0 1 0 0 5 1\n", 4, api.ErrTwice},
		{strings.Repeat(good, 7), 7, api.ErrMany},
		{strings.Repeat("1 coil 9 9 9 9 0 101\n", 40000), 40000, api.ErrMany},
	} {
		parsesNot(t, x.s, x.at, x.e)
	}
}

// P4.1: the longest strings.
func TestParseLong(t *testing.T) {
	rest := " shunt 0 1 0 0 5 1\n"
	long := strings.Repeat("c", api.MaxLog-len(rest)) + rest
	parsesNot(t, long, 1, api.ErrName)
	parsesNot(t, strings.Repeat("\n", api.MaxLog), 0, api.ErrSyntax)
	parsesNot(t, "c"+rest+strings.Repeat(" ", api.MaxLog-len(rest)-1), 1, api.ErrSyntax)
	for _, s := range []string{"c" + long, strings.Repeat("\n", api.MaxLog+1), "c" + rest + strings.Repeat("x", api.MaxLog)} {
		parsesNot(t, s, 0, api.ErrLong)
	}
}
