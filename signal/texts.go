package signal

import (
	"strconv"
	"strings"

	"woofer/api"
	"woofer/common"
)

// keyword is the first word of the text of a record.
const keyword = "record"

// Print returns the text of a record.
func Print(r Record) (string, api.Errno) {
	if e := CheckRecord(r); e != api.OK {
		return "", e
	}
	var b strings.Builder
	b.WriteString(keyword + " " + r.Name + " " + strconv.Itoa(r.Rate) + "\n")
	for _, x := range r.Samples {
		b.WriteString(strconv.Itoa(inSteps(x)) + "\n")
	}
	return b.String(), api.OK
}

// Parse returns the record of a text, and the index of the first line that is wrong.
func Parse(s string) (Record, int, api.Errno) {
	if len(s) > api.MaxLog {
		return Record{}, 0, api.ErrLong
	}
	var r Record
	list := lines(s)
	for i, text := range list {
		if !readLine(&r, i, text) {
			return Record{}, i, api.ErrSyntax
		}
	}
	r, e := checked(r)
	return r, failedAt(len(list), e), e
}

// failedAt returns the index of a line with an error, and 0 without one.
func failedAt(line int, e api.Errno) int {
	if e == api.OK {
		return 0
	}
	return line
}

// lines splits a string behind each line feed. The empty string is one line, and a wrong one.
func lines(s string) []string {
	list := strings.SplitAfter(s, "\n")
	last := len(list) - 1
	if last > 0 && list[last] == "" {
		return list[:last]
	}
	return list
}

// readLine adds what the line with an index says to a record, and reports whether the line is right.
func readLine(r *Record, index int, text string) bool {
	text, ended := strings.CutSuffix(text, "\n")
	if !ended {
		return false
	}
	read := readSample
	if index == 0 {
		read = readHead
	}
	words := common.Split(text, " ")
	ok := read(r, words.Next)
	return ok && words.Ended()
}

// readHead reads the words of the line 0.
func readHead(r *Record, next func() string) bool {
	begin := next()
	r.Name = next()
	rate, ok := common.Natural(next())
	r.Rate = rate
	return begin == keyword && r.Name != "" && ok
}

// readSample reads the word of any other line.
func readSample(r *Record, next func() string) bool {
	n, ok := common.Integer(next())
	r.Samples = append(r.Samples, ofSteps(n))
	return ok
}
