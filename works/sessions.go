package works

import (
	"slices"
	"strconv"
	"strings"

	"woofer/api"
	"woofer/common"
)

// nothing is an empty result of the console.
const nothing = "none"

// Session is a console.
type Session struct {
	history
}

// New returns a session without events.
func New() *Session {
	return &Session{}
}

// Open returns the session with a log, whose last record may be torn.
func Open(log string) (*Session, api.Errno) {
	l, _, err := Recover(log)
	if err != api.OK && err != api.ErrTorn {
		return nil, err
	}
	h, _, err := historyOf(l)
	if err != api.OK {
		return nil, err
	}
	return &Session{history: h}, api.OK
}

// Events returns the events.
func (s *Session) Events() []api.Event {
	if s == nil {
		return nil
	}
	return common.Mapped(s.events, copiedEvent)
}

// copiedEvent returns an event that shares no memory with the given one.
func copiedEvent(e api.Event) api.Event {
	e.Names = slices.Clone(e.Names)
	e.Values = slices.Clone(e.Values)
	return e
}

// Log returns the log of the events.
func (s *Session) Log() string {
	if s == nil {
		return ""
	}
	return logOf(s.events)
}

// question is what the console answers without an event.
type question struct {
	hasName bool // whether a word stands behind the first one
	answer  func(r Register, name string) ([]string, api.Errno)
}

// questions returns those of the console by their first words.
func questions() map[string]question {
	return map[string]question{
		"lots":    {true, Register.madeFrom},
		"units":   {true, Register.whereUsed},
		"missing": {true, Register.missing},
		"stock":   {true, answerStock},
		"version": {true, answerVersion},
		"shipped": {false, answerShipped},
		"held":    {false, answerHeld},
	}
}

func answerStock(r Register, kind string) ([]string, api.Errno) {
	left, err := r.stock(kind)
	if err != api.OK {
		return nil, err
	}
	return []string{strconv.Itoa(left)}, api.OK
}

func answerVersion(r Register, product string) ([]string, api.Errno) {
	if !r.hasProduct(product) {
		return nil, api.ErrUnknown
	}
	return []string{strconv.Itoa(r.versionOf(product))}, api.OK
}

func answerShipped(r Register, _ string) ([]string, api.Errno) {
	return keysOf(common.Filtered(r.Units, Unit.isShipped)), api.OK
}

func answerHeld(r Register, _ string) ([]string, api.Errno) {
	return keysOf(common.Filtered(r.Lots, Lot.isHeld)), api.OK
}

// Do executes a line, and returns its result.
func (s *Session) Do(line string) (string, api.Errno) {
	err := common.First(
		common.When(s == nil, api.ErrState),
		common.When(len(line) > api.MaxText, api.ErrLong),
		common.When(line == "", api.ErrSyntax),
	)
	if err != api.OK {
		return "", err
	}
	first, _, _ := strings.Cut(line, blank)
	all := allKinds()
	if _, isKind := all[first]; isKind {
		return s.enter(all, line)
	}
	if q, isQuestion := questions()[first]; isQuestion {
		return s.ask(q, line)
	}
	return "", api.ErrKind
}

// enter adds the event of a line, if it is accepted.
func (s *Session) enter(all kinds, line string) (string, api.Errno) {
	e, ok := readEvent(all, common.Split(line, blank))
	e.Number = len(s.events) + 1
	err := common.First(
		common.When(!ok, api.ErrSyntax),
		common.When(len(s.events) == api.MaxEvents, api.ErrMany),
		s.checkNext(all, e),
	)
	if err != api.OK {
		return "", err
	}
	s.add(all, e)
	return "done " + strconv.Itoa(e.Number), api.OK
}

// ask answers the question of a line.
func (s *Session) ask(q question, line string) (string, api.Errno) {
	name, ok := readQuestion(q, common.Split(line, blank))
	if !ok {
		return "", api.ErrSyntax
	}
	list, err := q.answer(s.register(), name)
	if err != api.OK {
		return "", err
	}
	if len(list) == 0 {
		return nothing, api.OK
	}
	return strings.Join(list, blank), api.OK
}

// readQuestion reads the words of a question, and reports whether they have their form. It returns the name behind the
// first word, if there is one.
func readQuestion(q question, words *common.Words) (string, bool) {
	next := words.Next
	next()
	if !q.hasName {
		return "", words.Ended()
	}
	name := next()
	return name, name != "" && words.Ended()
}
