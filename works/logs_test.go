package works_test

import (
	"fmt"
	"strings"
	"testing"

	"woofer/api"
	"woofer/works"
)

// sum returns the checksum of a string.
func sum(s string) string {
	x := uint64(1)
	for _, b := range []byte(s) {
		x = (313*x + uint64(b)) % 9999889
	}
	return fmt.Sprintf("%07d", x)
}

// sealed returns the lines of bodies with their checksums.
func sealed(bodies ...string) string {
	text := ""
	for _, body := range bodies {
		text += body + "#" + sum(body) + "\n"
	}
	return text
}

// numberedLines returns the bodies of lines without their Numbers.
func numberedLines(lines ...string) []string {
	var l []string
	for i, line := range lines {
		l = append(l, fmt.Sprint(i+1, " ", line))
	}
	return l
}

// recovers requires the events of a prefix, the length of this prefix, and the error of the rest.
func recovers(t *testing.T, log string, wanted []event, length int, wantedError api.Errno) {
	t.Helper()
	l, n, e := works.Recover(log)
	same(t, "Recover of "+short(fmt.Sprintf("%q", log)), []any{l, n, e}, []any{wanted, length, wantedError})
}

// P10.3: the checksums of the chapter's examples, in records.
func TestChecksums(t *testing.T) {
	same(t, "the tests' own checksums", list(sum(""), sum("1"), sum("11")), list("0000001", "0000362", "0113355"))
	for body, e := range map[string]api.Errno{"": api.ErrSyntax, "1": api.ErrSyntax, "11": api.ErrSyntax} {
		recovers(t, body+"#"+sum(body)+"\n", nil, 0, e)
		recovers(t, body+"#"+sum(body+"x")+"\n", nil, 0, api.ErrCheck)
	}
}

// P10.3: Append and Recover of the events of the examples, one after the other, and of all kinds.
func TestAppendAndRecover(t *testing.T) {
	lines := append(exampleLines(), "hold coil_1 999999999", "undo", "free x 0", "update u1 1", "pair a b 2", "complain Z_9 3", "ship u1 3", "undo")
	log := ""
	for i, line := range lines {
		recovers(t, log, entries(lines[:i]...), len(log), api.OK)
		next := log + sealed(fmt.Sprint(i+1, " ", line))
		want(t, "Append", next)(works.Append(log, entry(i+1, line)))
		log = next
	}
	recovers(t, log, entries(lines...), len(log), api.OK)
	same(t, "all", log, sealed(numberedLines(lines...)...))
	want(t, "Append to nothing", "1 undo#"+sum("1 undo")+"\n")(works.Append("", entry(1, "undo")))
}

// P10.3: Append and Recover do not ask whether events are accepted.
func TestLogsOfAllEvents(t *testing.T) {
	log := ""
	var l []event
	for i := range api.MaxEvents {
		e := shaped(i+1, shapes[i*7%len(shapes)])
		for k := range e.Names {
			e.Names[k] = strings.Repeat("n", 24)
		}
		for k := range e.Values {
			e.Values[k] = api.MaxNumber
		}
		longer := log + sealed(body(e))
		if i%50 == 0 || i > api.MaxEvents-3 {
			want(t, "Append", longer)(works.Append(log, e))
		}
		log = longer
		l = append(l, e)
	}
	recovers(t, log, l, len(log), api.OK)
	fails[string](t, "one more", api.ErrRange)(works.Append(log, entry(api.MaxEvents+1, "undo")))
	fails[string](t, "one more", api.ErrOrder)(works.Append(log, entry(api.MaxEvents, "undo")))
	fails[string](t, "one more", api.ErrOrder)(works.Append(log, entry(1, "undo")))
	recovers(t, log+sealed("1001 undo"), l, len(log), api.ErrSyntax)
	recovers(t, log+sealed("1000 undo"), l, len(log), api.ErrOrder)
	recovers(t, log+sealed("1 undo"), l, len(log), api.ErrOrder)
	recovers(t, log+"1001 undo", l, len(log), api.ErrTorn)
}

// body returns the body of an event.
func body(e event) string {
	words := list(fmt.Sprint(e.Number), e.Kind)
	words = append(words, e.Names...)
	for _, n := range e.Values {
		words = append(words, fmt.Sprint(n))
	}
	return strings.Join(words, " ")
}

// P10.3: the errors of Append, in their order.
func TestAppendErrors(t *testing.T) {
	log := sealed(numberedLines(exampleLines()...)...)
	for _, x := range wrongEvents(12) {
		fails[string](t, "Append", x.err)(works.Append(log, x.e))
		fails[string](t, "Append", api.ErrTorn)(works.Append(log+"12", x.e))
	}
	for _, number := range []int{1, 11, 13, 1000} {
		fails[string](t, "Append", api.ErrOrder)(works.Append(log, entry(number, "undo")))
	}
	for _, number := range []int{-1, 0, 1001} {
		fails[string](t, "Append", api.ErrRange)(works.Append(log, entry(number, "undo")))
		fails[string](t, "Append", api.ErrKind)(works.Append(log, entry(12, "x")))
	}
	for rest, e := range map[string]api.Errno{
		"12 undo": api.ErrTorn, "\n": api.ErrSyntax, sealed("12 undo")[:8] + "1234567\n": api.ErrCheck, sealed("12 done"): api.ErrSyntax, sealed("13 undo"): api.ErrOrder,
	} {
		fails[string](t, "Append", e)(works.Append(log+rest, entry(12, "undo")))
		fails[string](t, "Append", e)(works.Append(log+rest, event{}))
	}
	fails[string](t, "Append", api.ErrLong)(works.Append(strings.Repeat("x", api.MaxLog+1), entry(1, "undo")))
	fails[string](t, "Append", api.ErrTorn)(works.Append(strings.Repeat("x", api.MaxLog), entry(1, "undo")))
}

// P10.3: the errors of the rest, behind some records, and before others.
func TestRecoverErrors(t *testing.T) {
	lines := exampleLines()[:3]
	log := sealed(numberedLines(lines...)...)
	rest := func(text string, e api.Errno) {
		t.Helper()
		for _, behind := range []string{"", sealed("4 undo"), sealed("5 undo"), "\n", "x"} {
			recovers(t, log+text+behind, entries(lines...), len(log), e)
		}
	}
	for _, text := range []string{"\n", " \n", "#\n", "x\n", "4 undo\n", "4 undo#\n", "4 undo#123456\n", "4 undo 1234567\n", "1234567\n", "4 undo#12345678\n",
		"4 undo#123456x\n", "4 undo#x234567\n", "4 undo#-123456\n", "4 undo#123456 \n", "4 undo#1234567 \n", "4 undo#1234567\r\n", "4 undo# 123456\n",
		"4 undo#\u0661\u0661\u0661\u0661\n", "4 undo#12345\xff7\n", "123456\n", "4 undo" + sum("4 undo") + "\n", "4 undo##" + sum("4 undo")[1:] + "\n",
	} {
		rest(text, api.ErrSyntax)
	}
	for _, text := range []string{"4 undo#0000000\n", "4 undo#9999999\n", "#0000000\n", "#0000002\n", "4 undo#" + sum("5 undo") + "\n", "4 undo #" + sum("4 undo") + "\n",
		"5 undo#" + sum("4 undo") + "\n", "x#" + sum("") + "\n", "4 undo##" + sum("4 undo") + "\n", "4 undo#0000001#" + sum("4 undo") + "\n", "\x00#" + sum("") + "\n",
		"#" + sealed("4 undo"), " " + sealed("4 undo"),
	} {
		rest(text, api.ErrCheck)
	}
	for _, body := range []string{"", " ", "#", "4", "4 ", "4 undo ", " 4 undo", "4  undo", "undo", "undo 4", "4 done", "4 Undo", "04 undo", "+4 undo", "-4 undo", "0 undo", "4.0 undo",
		"1001 undo", "1000000000 undo", "0000000004 undo", "x undo", "4 undo 1", "4 undo#", "4 undo#" + sum("4 undo"), "4 hold", "4 hold a", "4 hold 1", "4 hold 1 1", "4 hold a 01",
		"4 hold a -1", "4 hold a -0", "4 hold a +1", "4 hold a 1000000000", "4 hold a 0000000001", "4 hold a x", "4 hold a 1 ", "4 hold a 1 1", "4 hold a b 1", "4 hold a  1", "4 hold  1",
		"4 hold a", "4 hold a ", "4 hold 1a 1", "4 hold a- 1", "4 hold a\x00 1", "4 hold a 1\r", "4\thold a 1", "4 hold a 1_0", "4 hold a \u0661", "4 hold " + strings.Repeat("a", 25) + " 1",
		"4 test a b 1 2", "4 test a b 1 2 3 4", "4 test a 1 2 3", "4 test a b c 1 2", "4 build a b 1 c", "4 build a 1 b", "\x00", "\xff", strings.Repeat("x", 9999), "4 undo x",
		"5 done", "99 hold a", "4 lot a b 1", "4 lot a 1 1 b",
	} {
		rest(sealed(body), api.ErrSyntax)
	}
	for _, body := range []string{"1 undo", "3 undo", "5 undo", "1000 undo", "2 hold a 1", "5 hold x 999999999"} {
		rest(sealed(body), api.ErrOrder)
	}
	recovers(t, log+sealed("4 undo"), append(entries(lines...), entry(4, "undo")), len(log)+len(sealed("4 undo")), api.OK)
	recovers(t, sealed("2 undo"), nil, 0, api.ErrOrder)
}

// P10.3: what stands behind the last line feed is torn, whatever it is.
func TestTornLogs(t *testing.T) {
	lines := exampleLines()
	log := sealed(numberedLines(lines...)...)
	for n := range log {
		count := strings.Count(log[:n], "\n")
		whole := strings.LastIndexByte(log[:n], '\n') + 1
		e := api.ErrTorn
		if n == whole {
			e = api.OK
		}
		recovers(t, log[:n], entries(lines[:count]...), whole, e)
	}
	for _, rest := range []string{" ", "x", "\x00", "12 undo", strings.TrimSuffix(sealed("12 undo"), "\n"), sealed("12 undo")[:9], "#", "\r", strings.Repeat("x", 9999)} {
		recovers(t, log+rest, entries(lines...), len(log), api.ErrTorn)
		recovers(t, rest, nil, 0, api.ErrTorn)
	}
}

// P10.3: the length of a log.
func TestLongLogs(t *testing.T) {
	log := sealed("1 undo")
	recovers(t, strings.Repeat("x", api.MaxLog), nil, 0, api.ErrTorn)
	recovers(t, log+strings.Repeat("x", api.MaxLog-len(log)), entries("undo"), len(log), api.ErrTorn)
	recovers(t, log+strings.Repeat("\n", api.MaxLog-len(log)), entries("undo"), len(log), api.ErrSyntax)
	recovers(t, log+strings.Repeat("\n", api.MaxLog-len(log)+1), nil, 0, api.ErrLong)
	recovers(t, strings.Repeat("x", api.MaxLog+1), nil, 0, api.ErrLong)
	recovers(t, strings.Repeat(log, 99999), nil, 0, api.ErrLong)
}

// otherBytes returns all bytes, or some of them.
func otherBytes(all bool) []byte {
	some := []byte("0123456789# azAZ_-\x00\x0b\r\x80\xff")
	for b := 0; all && b < 256; b++ {
		some = append(some, byte(b))
	}
	return some
}

// P10.3, P10.5: a log of which a byte is changed to another one, neither of which is a line feed, is not recovered as a whole.
func TestChangedBytes(t *testing.T) {
	lines := append(exampleLines(), "undo", "pair a b 3", "complain Z_9 999999999")
	log := sealed(numberedLines(lines...)...)
	for i := range log {
		if log[i] == '\n' {
			continue
		}
		count := strings.Count(log[:i], "\n")
		whole := strings.LastIndexByte(log[:i], '\n') + 1
		mark := whole + strings.IndexByte(log[whole:], '#')
		for _, b := range otherBytes(i < 60) {
			if b == log[i] || b == '\n' {
				continue
			}
			e := api.ErrCheck
			if i == mark || i > mark && (b < '0' || b > '9') {
				e = api.ErrSyntax
			}
			recovers(t, log[:i]+string([]byte{b})+log[i+1:], entries(lines[:count]...), whole, e)
		}
	}
}
