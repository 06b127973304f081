package works_test

import (
	"fmt"
	"slices"
	"strings"
	"testing"

	"woofer/api"
	"woofer/works"
)

// does requires the results of lines, none of which has an error.
func does(t *testing.T, s *works.Session, lines ...string) {
	t.Helper()
	for _, line := range lines {
		want(t, line, fmt.Sprint("done ", len(s.Events())+1))(s.Do(line))
	}
}

// refuses requires the error of a line, which changes nothing.
func refuses(t *testing.T, s *works.Session, line string, wanted api.Errno) {
	t.Helper()
	before := s.Log()
	fails[string](t, "Do of "+short(fmt.Sprintf("%q", line)), wanted)(s.Do(line))
	same(t, "Log behind an error", s.Log(), before)
}

// answers requires the answers of questions.
func answers(t *testing.T, s *works.Session, questions map[string]string) {
	t.Helper()
	before := s.Log()
	for line, answer := range questions {
		want(t, line, answer)(s.Do(line))
	}
	same(t, "Log behind questions", s.Log(), before)
}

// exampleSession returns a session with the events of the examples.
func exampleSession(t *testing.T, more ...string) *works.Session {
	t.Helper()
	s := works.New()
	does(t, s, append(exampleLines(), more...)...)
	return s
}

// P10.4: a session without events.
func TestNew(t *testing.T) {
	s := works.New()
	same(t, "Events", s.Events(), []event{})
	same(t, "Log", s.Log(), "")
	answers(t, s, map[string]string{"shipped": "none", "held": "none", "stock cone": "0"})
	refuses(t, s, "undo", api.ErrEmpty)
	refuses(t, s, "lots u1", api.ErrUnknown)
	does(t, s, "product a 0", "undo")
	refuses(t, s, "undo", api.ErrEmpty)
	same(t, "another session", works.New().Log(), "")
}

// P10.4: events of a session, its log, and the session that is opened with it.
func TestSession(t *testing.T) {
	s := exampleSession(t)
	for range 2 {
		same(t, "Events", s.Events(), example())
		same(t, "Log", s.Log(), sealed(numberedLines(exampleLines()...)...))
		does(t, s, "hold coil_1 3")
		refuses(t, s, "ship u1 3", api.ErrHold)
		does(t, s, "undo", "issue box 3")
		refuses(t, s, "ship u1 3", api.ErrVersion)
		does(t, s, "update u1 3")
		refuses(t, s, "ship u1 3", api.ErrFail)
		does(t, s, "undo", "undo", "ship u1 3")
		refuses(t, s, "undo", api.ErrRule)
		refuses(t, s, "use u1 cone_1 3 1", api.ErrOver)
		more := list("hold coil_1 3", "undo", "issue box 3", "update u1 3", "undo", "undo", "ship u1 3")
		same(t, "Events", s.Events(), example(more...))
		same(t, "Log", s.Log(), sealed(numberedLines(append(exampleLines(), more...)...)...))
		s = of[*works.Session](t)(works.Open(sealed(numberedLines(exampleLines()...)...)))
	}
}

// P10.4: questions.
func TestQuestions(t *testing.T) {
	s := exampleSession(t)
	answers(t, s, map[string]string{
		"lots u1": "cone_1 coil_1", "units cone_1": "u1", "units coil_1": "u1", "missing u1": "none", "stock cone": "8", "stock coil": "4", "stock x": "0",
		"version box": "1", "shipped": "none", "held": "none",
	})
	does(t, s, joined(built("u2"), built("u3"), list("build u4 box 3", "test box b 3 1 2", "test box a 3 1 2", "lot a cone 3 2", "lot b x 3 2", "product other 3", "ship u3 3", "ship u1 3", "hold coil_1 3", "hold cone_1 3", "issue box 3", "update u2 3"))...)
	answers(t, s, map[string]string{
		"lots u1": "cone_1 coil_1", "lots u2": "cone_1 coil_1", "lots u4": "none", "units cone_1": "u1 u2 u3", "units a": "none", "missing u2": "sweep b a", "missing u1": "none",
		"missing u4": "sweep", "stock cone": "2", "stock coil": "0", "stock x": "2", "stock u1": "0", "version box": "2", "version other": "0", "shipped": "u1 u3", "held": "cone_1 coil_1",
	})
	does(t, s, "measure u2 b 3 1", "free cone_1 3")
	answers(t, s, map[string]string{"missing u2": "sweep a", "held": "coil_1", "stock cone": "6"})
	for _, name := range []string{"x", "box", "cone_1", "cone", "U1", "1", "\xff", "u1\n", strings.Repeat("u", 4000)} {
		refuses(t, s, "lots "+name, api.ErrUnknown)
		refuses(t, s, "missing "+name, api.ErrUnknown)
	}
	for _, name := range []string{"x", "box", "u1", "cone", "Cone_1", "1", "\xff", "cone_1\t"} {
		refuses(t, s, "units "+name, api.ErrUnknown)
	}
	for _, name := range []string{"x", "cone_1", "u1", "cone", "Box", "1", "\xff"} {
		refuses(t, s, "version "+name, api.ErrUnknown)
	}
	for _, name := range wrongNames {
		if name != "" && !strings.Contains(name, " ") && len(name) < 4000 {
			refuses(t, s, "stock "+name, api.ErrName)
		}
	}
}

// P10.4: lines that do not have their form; first words that are none.
func TestSyntaxOfLines(t *testing.T) {
	s := exampleSession(t)
	for _, question := range []string{"lots", "units", "missing", "stock", "version"} {
		for _, behind := range []string{"", " ", "  ", "  u1", " u1 ", " u1  ", " u1 u1", " box box", " x 1", " a b c"} {
			refuses(t, s, question+behind, api.ErrSyntax)
		}
	}
	for _, question := range []string{"shipped", "held"} {
		for _, behind := range []string{" ", "  ", " u1", " u1 ", " 1"} {
			refuses(t, s, question+behind, api.ErrSyntax)
		}
	}
	for _, line := range []string{"lot a b 3 1", "product a 3", "need box a 3 1", "test box a 3 1 2", "issue box 3", "build a box 3", "use u1 cone_1 3 1", "measure u1 sweep 3 1",
		"update u1 3", "pair u1 u1 3", "hold cone_1 3", "free cone_1 3", "ship u1 3", "complain u1 3", "undo",
	} {
		words := strings.Split(line, " ")
		for i := range words {
			for _, word := range []string{"", " ", "x y"} {
				if i > 0 {
					refuses(t, s, strings.Join(slices.Replace(slices.Clone(words), i, i+1, word), " "), api.ErrSyntax)
				}
			}
			if i > 0 {
				refuses(t, s, strings.Join(slices.Delete(slices.Clone(words), i, i+1), " "), api.ErrSyntax)
			}
			if i > 0 && '0' <= words[i][0] && words[i][0] <= '9' {
				for _, word := range []string{"x", "-1", "-0", "+1", "01", "00", "1.0", "1x", "1_0", "1000000000", "0000000001", "99999999999999999999", "\u0661", "1\n", "\xff"} {
					refuses(t, s, strings.Join(slices.Replace(slices.Clone(words), i, i+1, word), " "), api.ErrSyntax)
					refuses(t, s, "hold 9 "+word, api.ErrSyntax)
				}
			}
		}
		for _, behind := range []string{" ", "  ", " 1", " x", " 1 1", " x 1"} {
			refuses(t, s, line+behind, api.ErrSyntax)
		}
		for _, line := range []string{" " + line, "\t" + line, "12 " + line, strings.Replace(line, " ", "\t", 1) + "x", "x" + line, strings.ToUpper(line), line[:len(words[0])] + "\n"} {
			refuses(t, s, line, api.ErrKind)
		}
	}
	for _, line := range []string{" ", "  ", "x", "none", "done 1", "Lots u1", "lot\n", "\n", "shipped\n", "shipped\t", " shipped", "event", "\x00", "\xff", "stocks cone", "#", "1", strings.Repeat("x", api.MaxText)} {
		refuses(t, s, line, api.ErrKind)
	}
	refuses(t, s, "", api.ErrSyntax)
}

// P10.4: the length of a line.
func TestLongLines(t *testing.T) {
	s := exampleSession(t)
	for _, line := range []string{"stock ", "hold cone_1 ", "lots ", "x", "undo ", "lot "} {
		refuses(t, s, line+strings.Repeat("x", api.MaxText+1-len(line)), api.ErrLong)
	}
	refuses(t, s, strings.Repeat(" ", api.MaxText+1), api.ErrLong)
	refuses(t, s, "stock "+strings.Repeat("x", api.MaxText-6), api.ErrName)
	refuses(t, s, "lots "+strings.Repeat("x", api.MaxText-5), api.ErrUnknown)
	refuses(t, s, "hold "+strings.Repeat("x", api.MaxText-7)+" 3", api.ErrName)
	refuses(t, s, strings.Repeat(" ", api.MaxText), api.ErrKind)
}

// P10.4: errors of events: those of the form, of CheckEvent, and those with which they are not accepted.
func TestErrorsOfLines(t *testing.T) {
	s := exampleSession(t)
	for line, e := range map[string]api.Errno{
		"lot 1 x 3 1": api.ErrName, "lot x 1 3 1": api.ErrName, "lot a\n x 3 1": api.ErrName, "hold " + strings.Repeat("x", 25) + " 0": api.ErrName, "hold \xff 0": api.ErrName,
		"lot cone_1 cone 2 1": api.ErrState, "lot cone_1 cone 3 1": api.ErrTwice, "lot new cone 3 0": api.ErrRange, "issue x 3": api.ErrUnknown, "ship u1 2": api.ErrState, "free cone_1 3": api.ErrState,
		"use u1 cone_1 3 9": api.ErrLarge, "measure u1 x 3 1": api.ErrNone, "test box a 3 2 1": api.ErrOrder, "update u1 3": api.ErrVersion, "pair u1 u1 3": api.ErrTwice, "complain u1 3": api.ErrState,
	} {
		refuses(t, s, line, e)
	}
	does(t, s, "lot a b 999999999 10000", "undo", "ship u1 3")
	refuses(t, s, "undo", api.ErrRule)
}

// P10.4: at most MaxEvents events.
func TestFullSession(t *testing.T) {
	s := exampleSession(t)
	does(t, s, slices.Repeat(list("hold cone_1 3", "undo"), (api.MaxEvents-len(exampleLines()))/2)...)
	does(t, s, "ship u1 3")
	for _, line := range []string{"undo", "hold cone_1 3", "hold x 3", "hold 9 3", "hold cone_1 0", "lot cone_1 cone 0 0"} {
		refuses(t, s, line, api.ErrMany)
	}
	for _, line := range []string{"undo 1", "hold cone_1", "hold cone_1 x", "", "lots"} {
		refuses(t, s, line, api.ErrSyntax)
	}
	refuses(t, s, "x", api.ErrKind)
	answers(t, s, map[string]string{"shipped": "u1", "lots u1": "cone_1 coil_1"})
	l := s.Events()
	same(t, "Events", len(l), api.MaxEvents)
	same(t, "the last one", l[api.MaxEvents-1], entry(api.MaxEvents, "ship u1 3"))
	other := of[*works.Session](t)(works.Open(s.Log()))
	same(t, "Log", other.Log(), s.Log())
	refuses(t, other, "complain u1 3", api.ErrMany)
}

// P10.4: Open of whole logs, of torn ones, and of wrong ones.
func TestOpen(t *testing.T) {
	lines := append(exampleLines(), "ship u1 3", "complain u1 4")
	log := sealed(numberedLines(lines...)...)
	for n := range len(log) + 1 {
		s := of[*works.Session](t)(works.Open(log[:n]))
		count := strings.Count(log[:n], "\n")
		same(t, "Events of a torn log", s.Events(), entries(lines[:count]...))
		same(t, "Log of a torn log", s.Log(), log[:strings.LastIndexByte(log[:n], '\n')+1])
	}
	s := of[*works.Session](t)(works.Open(log + "14 compl"))
	refuses(t, s, "undo 1", api.ErrSyntax)
	does(t, s, "complain u1 4", "undo", "undo")
	refuses(t, s, "undo", api.ErrRule)
	for text, e := range map[string]api.Errno{
		log + "\n":                              api.ErrSyntax,
		log + "14 undo#1234567\n":               api.ErrCheck,
		log + sealed("14 x"):                    api.ErrSyntax,
		log + sealed("15 undo"):                 api.ErrOrder,
		log + sealed("14 ship u1 4"):            api.ErrOver,
		log + sealed("14 ship u1 4") + "15":     api.ErrOver,
		log + sealed("14 ship u1 3", "15 undo"): api.ErrState,
		// The error of Recover comes before that of Replay.
		log + sealed("14 ship u1 4") + "\n":   api.ErrSyntax,
		sealed("1 undo"):                      api.ErrEmpty,
		sealed("1 ship a 1"):                  api.ErrUnknown,
		strings.Repeat("x", api.MaxLog+1):     api.ErrLong,
		"\n":                                  api.ErrSyntax,
		strings.Replace(log, "10#", "11#", 1): api.ErrCheck,
	} {
		s, got := works.Open(text)
		same(t, "Open of "+short(text[max(0, len(text)-60):]), []any{s == nil, got}, []any{true, e})
	}
	s = of[*works.Session](t)(works.Open(strings.Repeat("x", api.MaxLog)))
	same(t, "Log of a torn record", s.Log(), "")
	does(t, s, "product a 1")
}

// P10.4: a nil session, and one that New has not made.
func TestNilSession(t *testing.T) {
	var s *works.Session
	for _, line := range []string{"", "shipped", "undo", "x", "product a 1", strings.Repeat("x", api.MaxText+1)} {
		fails[string](t, "Do", api.ErrState)(s.Do(line))
	}
	same(t, "Events", s.Events(), []event{})
	same(t, "Log", s.Log(), "")
	var zero works.Session
	does(t, &zero, exampleLines()...)
	same(t, "Events", zero.Events(), example())
}

// P10.4: sessions do not know of each other.
func TestSessionsAreApart(t *testing.T) {
	log := sealed(numberedLines(exampleLines()...)...)
	a, b := of[*works.Session](t)(works.Open(log)), of[*works.Session](t)(works.Open(log))
	does(t, a, "undo", "measure u1 sweep 3 91", "hold cone_1 3")
	does(t, b, "ship u1 3")
	same(t, "a", a.Log(), sealed(numberedLines(append(exampleLines(), "undo", "measure u1 sweep 3 91", "hold cone_1 3")...)...))
	same(t, "b", b.Log(), sealed(numberedLines(append(exampleLines(), "ship u1 3")...)...))
	answers(t, a, map[string]string{"shipped": "none", "held": "cone_1", "missing u1": "sweep"})
	answers(t, b, map[string]string{"shipped": "u1", "held": "none", "missing u1": "none"})
}
