package signal_test

import (
	"strings"
	"testing"

	"woofer/api"
	"woofer/signal"
)

// P1.5: Print.
func TestPrint(t *testing.T) {
	for _, x := range []struct {
		r    signal.Record
		text string
	}{
		{hum(), "record hum 48\n16\n-8\n32\n"},
		{signal.Record{Name: "a_9", Rate: 192000}, "record a_9 192000\n"},
		{signal.Record{Name: "Q", Rate: 1, Samples: []float32{0, minus, 0.0625, -0.0625, 2048, -2048}}, "record Q 1\n0\n0\n1\n-1\n32768\n-32768\n"},
	} {
		s, e := signal.Print(x.r)
		equal(t, "Print", e, api.OK)
		equal(t, "Print", s, x.text)
	}
	for _, x := range wrongRecords() {
		s, e := signal.Print(x.r)
		equal(t, "Print: "+x.what, e, x.e)
		equal(t, "Print: "+x.what, s, "")
	}
}

// P1.5: Parse of texts.
func TestParse(t *testing.T) {
	for _, x := range []struct {
		s string
		r signal.Record
	}{
		{"record hum 48\n16\n-8\n32\n", hum()},
		{"record a 48\n", signal.Record{Name: "a", Rate: 48}},
		{"record record 192000\n0\n", signal.Record{Name: "record", Rate: 192000, Samples: []float32{0}}},
		{"record a 1\n32768\n-32768\n1\n-1\n10\n", signal.Record{Name: "a", Rate: 1, Samples: []float32{2048, -2048, 0.0625, -0.0625, 0.625}}},
		{"record a 1\n" + strings.Repeat("-5\n", api.MaxLength), signal.Record{Name: "a", Rate: 1, Samples: repeated(float32(-0.3125), api.MaxLength)}},
	} {
		r, at, e := signal.Parse(x.s)
		equal(t, "Parse", e, api.OK)
		equal(t, "Parse", at, 0)
		equalRecord(t, "Parse", r, x.r)
	}
}

// failsAt requires an error of Parse at a line, and nothing else.
func failsAt(t *testing.T, s string, at int, e api.Errno) {
	t.Helper()
	r, gotAt, gotE := signal.Parse(s)
	what := s
	if len(what) > 60 {
		what = what[:60]
	}
	if gotAt != at || gotE != e {
		t.Errorf("Parse of %q: got %v at %v, want %v at %v", what, gotE, gotAt, e, at)
	}
	equalRecord(t, "Parse beside an error", r, signal.Record{})
}

// P1.5: the line 0 of Parse.
func TestParseHead(t *testing.T) {
	heads := []string{
		"", "\n", " ", "record", "record\n", "record a\n", "record a \n", "record  48\n", "record a  48\n", "record  a 48\n",
		" record a 48\n", "record a 48 \n", "record a 48 0\n", "records a 48\n", "Record a 48\n", "a record 48\n", "record a 48\r\n",
		"record\ta\t48\n", "record a -48\n", "record a -1\n", "record a -0\n", "record a +48\n", "record a 048\n", "record a 00\n", "record a 4x\n", "record a 4.0\n",
		"record a 0x10\n", "record a 1_0\n", "record a 1000000000\n", "record a 99999999999999999999\n", "record a b\n", "record a -\n", "48\n",
	}
	for _, s := range heads {
		failsAt(t, s, 0, api.ErrSyntax)
		failsAt(t, s+"\nx", 0, api.ErrSyntax)
	}
	failsAt(t, "record a 48", 0, api.ErrSyntax)
}

// P1.5: the other lines of Parse.
func TestParseLines(t *testing.T) {
	lines := []string{
		"\n", " \n", "1 \n", " 1\n", "1 2\n", "-\n", "-0\n", "--1\n", "+1\n", "01\n", "-01\n", "00\n", "x\n", "1x\n", "1.5\n", "1e2\n",
		"1\r\n", "1_0\n", "0x1\n", "1000000000\n", "-1000000000\n", "0000000001\n", "99999999999999999999\n", "-99999999999999999999\n", "\x00\n", "\u0661\n",
		"\xff\n", "record a 48\n",
	}
	for _, s := range lines {
		failsAt(t, "record a 48\n"+s, 1, api.ErrSyntax)
		failsAt(t, "record a 48\n7\n-7\n"+s, 3, api.ErrSyntax)
		failsAt(t, "record a 48\n7\n"+s+"1\n", 2, api.ErrSyntax)
	}
	failsAt(t, "record a 48\n1", 1, api.ErrSyntax)
	failsAt(t, "record a 48\n7\n1 ", 2, api.ErrSyntax)
	failsAt(t, "record a 48\n7\nx\ny\n", 2, api.ErrSyntax)
}

// P1.5: without a wrong line the index is the number of lines.
func TestParseRecords(t *testing.T) {
	for _, x := range []struct {
		s  string
		at int
		e  api.Errno
	}{
		{"record 1 48\n", 1, api.ErrName},
		{"record -1 48\n0\n", 2, api.ErrName},
		{"record a\tb 48\n", 1, api.ErrName},
		{"record \xff 48\n1\n", 2, api.ErrName},
		{"record " + strings.Repeat("a", 25) + " 0\n99999\n", 2, api.ErrName},
		{"record a 0\n1\n", 2, api.ErrRange},
		{"record a 192001\n", 1, api.ErrRange},
		{"record a 999999999\n", 1, api.ErrRange},
		{"record a 48\n32769\n", 2, api.ErrRange},
		{"record a 48\n-32769\n0\n0\n", 4, api.ErrRange},
		{"record a 48\n0\n999999999\n", 3, api.ErrRange},
		{"record a 48\n-999999999\n", 2, api.ErrRange},
		{"record a 0\n" + strings.Repeat("0\n", 4097), 4098, api.ErrRange},
		{"record a 1\n" + strings.Repeat("0\n", 4097), 4098, api.ErrMany},
		{"record a 1\n99999\n" + strings.Repeat("0\n", 4096), 4098, api.ErrMany},
		{"record a 1\n" + strings.Repeat("0\n", 4097) + "x\n", 4098, api.ErrSyntax},
		{"record 1 48\nx\n", 1, api.ErrSyntax},
	} {
		failsAt(t, x.s, x.at, x.e)
	}
}

// P1.5: the longest strings.
func TestParseLong(t *testing.T) {
	const head = "record a 1\n"
	fits := head + strings.Repeat("0\n", (api.MaxLog-len(head))/2) + "0"
	equal(t, "length", len(fits), api.MaxLog)
	lines := strings.Count(fits, "\n")
	failsAt(t, fits, lines, api.ErrSyntax)
	failsAt(t, fits[:len(fits)-1], lines, api.ErrMany)
	failsAt(t, fits+"\n", 0, api.ErrLong)
	failsAt(t, strings.Repeat("\n", api.MaxLog), 0, api.ErrSyntax)
	failsAt(t, strings.Repeat(" ", api.MaxLog+1), 0, api.ErrLong)
}
