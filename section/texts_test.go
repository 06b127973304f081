package section_test

import (
	"slices"
	"strings"
	"testing"

	"woofer/api"
	"woofer/section"
)

// order is a section that has a different number in each place.
var order = section.Section{B0: 1, B1: -2, B2: 3, A1: -4, A2: 5, Shift: 6}

// P5.4: Pack and Unpack of the same lists.
func TestPack(t *testing.T) {
	const most = section.MaxTap
	for _, x := range []struct {
		l      []section.Section
		packed []int
	}{
		{nil, nil},
		{list(order), list(1, -2, 3, -4, 5, 6)},
		{list(exampleS, order), list(4, 0, 0, -2, 0, 2, 1, -2, 3, -4, 5, 6)},
		{list(back(filter(most, -most, most, 15), -most, most)), list(most, -most, most, -most, most, 15)},
		{slices.Repeat(list(order), 8), slices.Repeat(list(1, -2, 3, -4, 5, 6), 8)},
	} {
		want(t, "Pack", x.packed)(section.Pack(x.l))
		want(t, "Unpack", x.l)(section.Unpack(x.packed))
	}
	for _, x := range wrongLists() {
		fails[[]int](t, "Pack", x.e)(section.Pack(x.l))
	}
}

// P5.4: the errors of Unpack, in their order.
func TestWrongUnpack(t *testing.T) {
	for n := range 60 {
		e := api.OK
		switch {
		case n > 48:
			e = api.ErrMany
		case n%6 != 0:
			e = api.ErrShape
		}
		l, got := section.Unpack(make([]int, n))
		same(t, "Unpack", got, e)
		if e == api.OK {
			same(t, "Unpack", l, make([]section.Section, n/6))
			continue
		}
		fails[[]section.Section](t, "Unpack", e)(section.Unpack(make([]int, n)))
		fails[[]section.Section](t, "Unpack", e)(section.Unpack(slices.Repeat([]int{99999}, n)))
	}
	fails[[]section.Section](t, "Unpack", api.ErrMany)(section.Unpack(make([]int, 6000)))
	for _, s := range wrongSections() {
		var packed []int
		for _, n := range numbersOf(&s) {
			packed = append(packed, *n)
		}
		fails[[]section.Section](t, "Unpack", api.ErrRange)(section.Unpack(packed))
		fails[[]section.Section](t, "Unpack", api.ErrRange)(section.Unpack(slices.Concat(make([]int, 42), packed)))
		fails[[]section.Section](t, "Unpack", api.ErrShape)(section.Unpack(append(packed, 0)))
	}
}

// parses requires that Parse returns sections.
func parses(t *testing.T, s string, wanted []section.Section) {
	t.Helper()
	l, at, e := section.Parse(s)
	same(t, "Parse of "+s, []any{l, at, e}, []any{wanted, 0, api.OK})
}

// parsesNot requires that Parse returns an error at a line, and no sections.
func parsesNot(t *testing.T, s string, at int, e api.Errno) {
	t.Helper()
	l, gotAt, gotE := section.Parse(s)
	same(t, "Parse of "+short(s), []any{l, gotAt, gotE}, []any{[]int{}, at, e})
}

// P5.4: Print and Parse of the same texts.
func TestTexts(t *testing.T) {
	const most = section.MaxTap
	for _, x := range []struct {
		l    []section.Section
		text string
	}{
		{nil, ""},
		{list(exampleS), "4 0 0 -2 0 2\n"},
		{list(exampleS, order, section.Section{}), "4 0 0 -2 0 2\n1 -2 3 -4 5 6\n0 0 0 0 0 0\n"},
		{list(back(filter(most, -most, most, 15), -most, most)), "32767 -32767 32767 -32767 32767 15\n"},
		{slices.Repeat(list(order), 8), strings.Repeat("1 -2 3 -4 5 6\n", 8)},
	} {
		want(t, "Print", x.text)(section.Print(x.l))
		parses(t, x.text, x.l)
	}
	for _, x := range wrongLists() {
		fails[string](t, "Print", x.e)(section.Print(x.l))
	}
}

// P5.4: lines that do not have their form; errors of sections, and of later lines, come behind them.
func TestParseSyntax(t *testing.T) {
	good, bad := "4 0 0 -2 0 2\n", "0 0 0 0 0 999999999\n"
	for _, line := range []string{
		"", " ", "4", "4 0", "4 0 0 -2 0", "4 0 0 -2 0 ", " 4 0 0 -2 0", "4 0 0 -2 0 2 ", " 4 0 0 -2 0 2", "4 0 0 -2 0 2 0", "4 0 0 -2 0 2 4 0 0 -2 0 2",
		"4  0 0 -2 0 2", "4 0 0  0 2", "4 0 0 -2 0  2", "4\t0 0 -2 0 2", "4 0 0 -2 0\t2", "4 0 0 -2 0 2\r", "4,0,0,-2,0,2", "4 0 0 - 2 0 2", "400-202", "     ", "\x00",
	} {
		for _, before := range []string{"", good, good + good, bad, good + strings.Repeat(bad, 20)} {
			at := strings.Count(before, "\n")
			for _, behind := range []string{"", good, bad, "\n", "x"} {
				parsesNot(t, before+line+"\n"+behind, at, api.ErrSyntax)
			}
		}
	}
	for _, number := range []string{
		"-0", "+1", "+0", "01", "-01", "00", "-00", "--1", "-", "x", "1x", "1-", "1.0", "1e1", "0x1", "1_0", "1000000000", "-1000000000", "0000000001", "99999999999999999999", "", "\u0661", "1,", "½", "\xff",
	} {
		for i := range 6 {
			words := strings.Split("4 0 0 -2 0 2", " ")
			words[i] = number
			parsesNot(t, good+strings.Join(words, " ")+"\n"+good, 1, api.ErrSyntax)
			// Numbers that are not in their range do not come before the form.
			words[(i+1)%6] = "-999999999"
			parsesNot(t, bad+strings.Join(words, " ")+"\n", 1, api.ErrSyntax)
		}
	}
}

// P5.4: a line without a line feed at its end.
func TestParseLastLine(t *testing.T) {
	line := "4 0 0 -2 0 2"
	parsesNot(t, line, 0, api.ErrSyntax)
	parsesNot(t, "x", 0, api.ErrSyntax)
	parsesNot(t, line+"\n"+line, 1, api.ErrSyntax)
	parsesNot(t, line+"\n ", 1, api.ErrSyntax)
	parsesNot(t, line+"\r", 0, api.ErrSyntax)
	parsesNot(t, "\n"+line, 0, api.ErrSyntax)
	parsesNot(t, line+"\n\n", 1, api.ErrSyntax)
}

// P5.4: texts of lists that have an error; the index is the number of lines.
func TestParseSections(t *testing.T) {
	good := "4 0 0 -2 0 2\n"
	for i := range 6 {
		for _, number := range []string{"32768", "-32768", "999999999", "-999999999"} {
			words := strings.Split("4 0 0 -2 0 2", " ")
			words[i] = number
			line := strings.Join(words, " ") + "\n"
			parsesNot(t, line, 1, api.ErrRange)
			parsesNot(t, good+line+good, 3, api.ErrRange)
			parsesNot(t, strings.Repeat(good, 8)+line, 9, api.ErrMany)
		}
	}
	parsesNot(t, "4 0 0 -2 0 16\n", 1, api.ErrRange)
	parsesNot(t, "4 0 0 -2 0 -1\n", 1, api.ErrRange)
	parsesNot(t, strings.Repeat(good, 9), 9, api.ErrMany)
	parsesNot(t, strings.Repeat("99999 0 0 0 0 0\n", 9), 9, api.ErrMany)
}

// P5.4: the longest strings.
func TestParseLong(t *testing.T) {
	line := "10 10 10 10 1 1\n" // 16 bytes
	long := strings.Repeat(line, api.MaxText/len(line))
	same(t, "length", len(long), api.MaxText)
	parsesNot(t, long, 256, api.ErrMany)
	parsesNot(t, long+"\n", 0, api.ErrLong)
	parsesNot(t, line+strings.Repeat(" ", api.MaxText-len(line)), 1, api.ErrSyntax)
	parsesNot(t, strings.Repeat("\n", api.MaxText), 0, api.ErrSyntax)
	for _, s := range []string{line + strings.Repeat(" ", api.MaxText), strings.Repeat("\n", api.MaxText+1), strings.Repeat("x", 1000000)} {
		parsesNot(t, s, 0, api.ErrLong)
	}
}
