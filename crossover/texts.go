package crossover

import (
	"strconv"
	"strings"

	"woofer/api"
	"woofer/common"
)

// numbersOf returns the numbers of a part, in the order of its line.
func numbersOf(p *Part) []*int {
	return []*int{&p.Element.A, &p.Element.B, &p.SlackA, &p.SlackB, &p.Cost, &p.Stock}
}

// Print returns the text of a catalogue.
func Print(l []Part) (string, api.Errno) {
	if e := CheckCatalogue(l); e != api.OK {
		return "", e
	}
	return strings.Join(common.Mapped(l, lineOf), ""), api.OK
}

// lineOf returns the line of a part.
func lineOf(p Part) string {
	words := []string{p.Name, p.Element.Kind}
	for _, n := range numbersOf(&p) {
		words = append(words, strconv.Itoa(*n))
	}
	return common.Line(words...)
}

// Parse returns the catalogue of a text, and the index of the first line that is wrong.
func Parse(s string) ([]Part, int, api.Errno) {
	return common.ParseList(s, api.MaxLog, readPart, CheckCatalogue)
}

// readPart reads the words of a line, and reports whether they have their form.
func readPart(next func() string) (Part, bool) {
	var p Part
	p.Name = next()
	p.Element.Kind = next()
	ok := p.Name != "" && p.Element.Kind != ""
	for _, n := range numbersOf(&p) {
		x, isNumber := common.Natural(next())
		*n = x
		ok = ok && isNumber
	}
	return p, ok
}
