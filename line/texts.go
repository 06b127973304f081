package line

import (
	"strconv"
	"strings"

	"woofer/api"
	"woofer/common"
)

// Print returns the text of units.
func Print(l []Unit) (string, api.Errno) {
	if e := CheckUnits(l); e != api.OK {
		return "", e
	}
	return strings.Join(common.Mapped(l, lineOf), ""), api.OK
}

// lineOf returns the line of a unit.
func lineOf(u Unit) string {
	words := append([]string{u.Serial}, common.Mapped(u.Values, strconv.Itoa)...)
	return common.Line(words...)
}

// Parse returns the units of a text, and the index of the first line that is wrong.
func Parse(s string) ([]Unit, int, api.Errno) {
	return common.ParseList(s, api.MaxLog, readUnit, CheckUnits)
}

// readUnit reads the words of a line, and reports whether they have their form.
func readUnit(next func() string) (Unit, bool) {
	u := Unit{Serial: next()}
	ok := u.Serial != ""
	for word := next(); word != ""; word = next() {
		n, isInteger := common.Integer(word)
		u.Values = append(u.Values, n)
		ok = ok && isInteger
	}
	return u, ok && len(u.Values) > 0
}
