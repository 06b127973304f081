package network_test

import (
	"strings"
	"testing"

	"woofer/api"
	"woofer/network"
)

// P2.3: Print and Parse of the same texts.
func TestTexts(t *testing.T) {
	for _, x := range []struct {
		l    []network.Element
		text string
	}{
		{nil, "wire"},
		{filter(), "series:2:1 shunt:0:1"},
		{row(block(0, 8)), "block:0:8"},
		{row(series(0, 0), shunt(0, 0), block(1, 0), trap(0, 1), series(8, 8)), "series:0:0 shunt:0:0 block:1:0 trap:0:1 series:8:8"},
	} {
		equal(t, "Print", ok[string](t)(network.Print(x.l)), x.text)
		equalList(t, "Parse", ok[[]network.Element](t)(network.Parse(x.text)), x.l)
	}
	equal(t, "Print of the empty list", ok[string](t)(network.Print([]network.Element{})), "wire")
}

// P2.3: strings that are no texts.
func TestParseSyntax(t *testing.T) {
	elements := []string{
		"", ":", "::", ":::", "series", "series:", "series:1", "series:1:", "series::1", ":1:1", "series:1:1:", "series:1:1:1", "series :1:1", "series:1: 1",
		"series:-1:1", "series:1:-0", "series:-0:1", "series:+1:1", "series:1:+1", "series:01:1", "series:1:00", "series:x:1", "series:1:x", "series:1.0:1",
		"series:1:0x1", "series:1_0:1", "series:1:1\n", "series:1:1\r", "series:\t1:1", "series:1:1\x00", "series:1000000000:1", "series:1:1000000000",
		"series:0000000001:1", "series:99999999999999999999:1", "series:1:\u0661", "series;1;1", "series,1,1", "series:1:1\n\n", "none:x:1", "none:1", "wire",
	}
	for _, s := range elements {
		for _, text := range []string{s, s + " series:1:1", "series:1:1 " + s, "none:9:9 " + s, strings.Repeat("shunt:1:1 ", 6) + s} {
			if text == "wire" {
				continue
			}
			l, e := network.Parse(text)
			failsList(t, text, l, e, api.ErrSyntax)
		}
	}
	for _, s := range []string{
		" ", "wire ", " wire", "wire\n", "Wire", "wires", "wire wire", "wire series:1:1", " series:1:1", "series:1:1 ", "series:1:1  shunt:1:1",
		"series:1:1\tshunt:1:1", "series:1:1\nshunt:1:1",
	} {
		l, e := network.Parse(s)
		failsList(t, s, l, e, api.ErrSyntax)
	}
}

// P2.3: texts of lists that are no ladders.
func TestParseLadders(t *testing.T) {
	for _, x := range []struct {
		s string
		e api.Errno
	}{
		{"none:1:1", api.ErrKind},
		{"Series:1:1", api.ErrKind},
		{"wire:1:1", api.ErrKind},
		{"\n:1:1", api.ErrKind},
		{"\xff:1:1", api.ErrKind},
		{"none:9:9", api.ErrKind},
		{"series:9:0", api.ErrRange},
		{"shunt:0:9", api.ErrRange},
		{"trap:999999999:0", api.ErrRange},
		{"block:0:999999999", api.ErrRange},
		{"block:0:0", api.ErrZero},
		{"trap:0:0", api.ErrZero},
		{"series:0:0 trap:0:0 none:1:1", api.ErrZero},
		{"series:1:9 none:1:1", api.ErrRange},
		{strings.TrimSuffix(strings.Repeat("series:1:1 ", 6), " "), api.ErrMany},
		{strings.TrimSuffix(strings.Repeat("none:9:9 ", 6), " "), api.ErrMany},
	} {
		l, e := network.Parse(x.s)
		failsList(t, x.s, l, e, x.e)
	}
}

// P2.3: the longest strings.
func TestParseLong(t *testing.T) {
	long := strings.Repeat("k", api.MaxText-4) + ":1:1"
	l, e := network.Parse(long)
	failsList(t, "the longest kind", l, e, api.ErrKind)
	for _, s := range []string{"k" + long, strings.Repeat(" ", api.MaxText+1), strings.Repeat("shunt:0:0 ", 1000), "wire" + strings.Repeat("\x00", api.MaxText)} {
		l, e = network.Parse(s)
		failsList(t, "too long", l, e, api.ErrLong)
	}
	l, e = network.Parse(strings.Repeat(" ", api.MaxText))
	failsList(t, "blanks", l, e, api.ErrSyntax)
}
