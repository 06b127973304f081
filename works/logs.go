package works

import (
	"strconv"
	"strings"

	"woofer/api"
	"woofer/common"
)

// The form of a log.
const (
	blank = " "  // between the words of a body
	mark  = "#"  // behind a body, before its checksum
	feed  = "\n" // behind a record
)

// The checksum of a string.
const (
	multiplier = 313
	modulus    = 9999889
	digits     = 7
	power      = 10000000 // 10 to the power digits
)

// checksum returns the checksum of a string.
func checksum(s string) string {
	x := 1
	for i := range len(s) {
		x = (multiplier*x + int(s[i])) % modulus
	}
	return strconv.Itoa(power + x)[1:]
}

// record returns the line of a log that holds an event.
func record(e api.Event) string {
	words := []string{strconv.Itoa(e.Number), e.Kind}
	words = append(words, e.Names...)
	words = append(words, common.Mapped(e.Values, strconv.Itoa)...)
	body := strings.Join(words, blank)
	return body + mark + checksum(body) + feed
}

// logOf returns the log of some events.
func logOf(l []api.Event) string {
	return strings.Join(common.Mapped(l, record), "")
}

// readEvent reads the words of an event but for its Number, and reports whether they have their form.
func readEvent(all kinds, words *common.Words) (api.Event, bool) {
	next := words.Next
	e := api.Event{Kind: next()}
	k, ok := all[e.Kind]
	for range k.numbers[0] {
		name := next()
		ok = ok && name != ""
		e.Names = append(e.Names, name)
	}
	for range k.numbers[1] {
		value, isNatural := common.Natural(next())
		ok = ok && isNatural
		e.Values = append(e.Values, value)
	}
	return e, ok && words.Ended()
}

// readBody returns the event of a body, and whether it is one that is right by itself.
func readBody(all kinds, body string) (api.Event, bool) {
	words := common.Split(body, blank)
	number, isNatural := common.Natural(words.Next())
	e, ok := readEvent(all, words)
	e.Number = number
	return e, isNatural && ok && all.checkEvent(e) == api.OK
}

// splitLine returns the body and the checksum of a line, and whether it has the form of a record.
func splitLine(line string) (string, string, bool) {
	end := len(line) - digits
	if end < 0 || !isDigits(line[end:]) {
		return "", "", false
	}
	body, ok := strings.CutSuffix(line[:end], mark)
	return body, line[end:], ok
}

// isDigits reports whether a string has digits alone.
func isDigits(s string) bool {
	for _, c := range s {
		if !common.Within(c, '0', '9') {
			return false
		}
	}
	return true
}

// readLine returns the event of a line of a log without its line feed, or the error of the line.
func readLine(all kinds, line string, number int) (api.Event, api.Errno) {
	body, sum, isSplit := splitLine(line)
	e, isRead := readBody(all, body)
	err := common.First(
		common.When(!isSplit, api.ErrSyntax),
		common.When(sum != checksum(body), api.ErrCheck),
		common.When(!isRead, api.ErrSyntax),
		common.When(e.Number != number, api.ErrOrder),
	)
	return e, err
}

// Append returns a log with one more record.
func Append(log string, e api.Event) (string, api.Errno) {
	l, _, err := Recover(log)
	if err := common.First(err, CheckEvent(e), common.When(e.Number != len(l)+1, api.ErrOrder)); err != api.OK {
		return "", err
	}
	longer := log + record(e)
	if len(longer) > api.MaxLog {
		return "", api.ErrLong
	}
	return longer, api.OK
}

// Recover returns the events of the longest prefix that is a log, its length, and the error of what stands behind it.
func Recover(log string) ([]api.Event, int, api.Errno) {
	if len(log) > api.MaxLog {
		return nil, 0, api.ErrLong
	}
	all := allKinds()
	var l []api.Event
	rest := log
	for rest != "" {
		line, behind, isWhole := strings.Cut(rest, feed)
		if !isWhole {
			return l, len(log) - len(rest), api.ErrTorn
		}
		e, err := readLine(all, line, len(l)+1)
		if err != api.OK {
			return l, len(log) - len(rest), err
		}
		l = append(l, e)
		rest = behind
	}
	return l, len(log), api.OK
}
