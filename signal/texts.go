package signal

import (
	"strconv"
	"strings"

	"woofer/api"
	"woofer/common"
)

// keyword is the first word of the text of a record.
const keyword = "record"

// Print returns the text of a record.
func Print(r Record) (string, api.Errno) {
	if e := CheckRecord(r); e != api.OK {
		return "", e
	}
	var b strings.Builder
	b.WriteString(common.Line(keyword, r.Name, strconv.Itoa(r.Rate)))
	for _, x := range r.Samples {
		b.WriteString(common.Line(strconv.Itoa(inSteps(x))))
	}
	return b.String(), api.OK
}

// Parse returns the record of a text, and the index of the first line that is wrong.
func Parse(s string) (Record, int, api.Errno) {
	if len(s) > api.MaxLog {
		return Record{}, 0, api.ErrLong
	}
	var r Record
	count, ok := common.ReadLines(s, func(i int, next func() string) bool {
		return readLine(&r, i, next)
	})
	// A text has the line 0, also without samples.
	if !ok || count == 0 {
		return Record{}, count, api.ErrSyntax
	}
	r, e := checked(r)
	return r, failedAt(count, e), e
}

// failedAt returns the index of a line with an error, and 0 without one.
func failedAt(line int, e api.Errno) int {
	if e == api.OK {
		return 0
	}
	return line
}

// readLine adds what the words of the line with an index say to a record, and reports whether they are right.
func readLine(r *Record, index int, next func() string) bool {
	if index == 0 {
		return readHead(r, next)
	}
	return readSample(r, next)
}

// readHead reads the words of the line 0.
func readHead(r *Record, next func() string) bool {
	begin := next()
	r.Name = next()
	rate, ok := common.Natural(next())
	r.Rate = rate
	return begin == keyword && r.Name != "" && ok
}

// readSample reads the word of any other line.
func readSample(r *Record, next func() string) bool {
	n, ok := common.Integer(next())
	r.Samples = append(r.Samples, ofSteps(n))
	return ok
}
