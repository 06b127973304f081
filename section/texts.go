package section

import (
	"slices"
	"strconv"
	"strings"

	"woofer/api"
	"woofer/common"
)

// Pack returns sections as a list of numbers.
func Pack(l []Section) ([]int, api.Errno) {
	if e := checkSections(l); e != api.OK {
		return nil, e
	}
	var packed []int
	for _, s := range l {
		n := numbersOf(s)
		packed = append(packed, n[:]...)
	}
	return packed, api.OK
}

// Unpack returns the sections of a list of numbers.
func Unpack(l []int) ([]Section, api.Errno) {
	e := common.First(
		common.When(len(l) > count*MaxSections, api.ErrMany),
		common.When(len(l)%count != 0, api.ErrShape),
	)
	if e != api.OK {
		return nil, e
	}
	var sections []Section
	for n := range slices.Chunk(l, count) {
		sections = append(sections, numbers(n).section())
	}
	if e := checkSections(sections); e != api.OK {
		return nil, e
	}
	return sections, api.OK
}

// Print returns the text of sections.
func Print(l []Section) (string, api.Errno) {
	if e := checkSections(l); e != api.OK {
		return "", e
	}
	return strings.Join(common.Mapped(l, lineOf), ""), api.OK
}

// lineOf returns the line of a section.
func lineOf(s Section) string {
	n := numbersOf(s)
	return common.Line(common.Mapped(n[:], strconv.Itoa)...)
}

// Parse returns the sections of a text, and the index of the first line that is wrong.
func Parse(s string) ([]Section, int, api.Errno) {
	return common.ParseList(s, api.MaxText, readSection, checkSections)
}

// readSection reads the words of a line, and reports whether they have their form.
func readSection(next func() string) (Section, bool) {
	var n numbers
	ok := true
	for i := range n {
		x, isInteger := common.Integer(next())
		n[i] = x
		ok = ok && isInteger
	}
	return n.section(), ok
}
