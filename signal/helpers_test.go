package signal_test

import (
	"fmt"
	"math"
	"slices"
	"testing"

	"woofer/api"
	"woofer/signal"
)

var (
	nan      = float32(math.NaN())
	infinite = float32(math.Inf(1))
	minus    = float32(math.Copysign(0, -1))
)

// equal compares a result with the expected one.
func equal[T comparable](t *testing.T, what string, got, wanted T) {
	t.Helper()
	if got != wanted {
		t.Errorf("%s: got %v, want %v", what, got, wanted)
	}
}

// equalList compares lists; nil and the empty list are equal.
func equalList[T comparable](t *testing.T, what string, got, wanted []T) {
	t.Helper()
	if !slices.Equal(got, wanted) {
		t.Errorf("%s: got %v, want %v", what, short(got), short(wanted))
	}
}

func equalRecord(t *testing.T, what string, got, wanted signal.Record) {
	t.Helper()
	equal(t, what+": name", got.Name, wanted.Name)
	equal(t, what+": rate", got.Rate, wanted.Rate)
	equalList(t, what+": samples", got.Samples, wanted.Samples)
}

func short[T any](l []T) string {
	if len(l) > 20 {
		return fmt.Sprint(l[:20], " and ", len(l)-20, " more")
	}
	return fmt.Sprint(l)
}

// hum is the record R of the chapter's examples.
func hum() signal.Record {
	return record(1, -0.5, 2)
}

func record(l ...float32) signal.Record {
	return signal.Record{Name: "hum", Rate: 48, Samples: l}
}

func repeated[T any](x T, n int) []T {
	return slices.Repeat([]T{x}, n)
}

// drawn returns n integers from -most to most that a key decides.
func drawn(key, n, most int) []int {
	l := make([]int, n)
	x := key
	for i := range l {
		x = x*16807%2147483647 + 1
		l[i] = x%(2*most+1) - most
	}
	return l
}

// drawnRecord returns a record whose n samples are from -most to most sixteenths.
func drawnRecord(t *testing.T, key, n, most int) signal.Record {
	t.Helper()
	r := record()
	for _, x := range drawn(key, n, most) {
		r.Samples = append(r.Samples, float32(x)/16)
	}
	equal(t, "drawn record", signal.CheckRecord(r), api.OK)
	return r
}

// wrongRecord is a record with its error.
type wrongRecord struct {
	what string
	r    signal.Record
	e    api.Errno
}

// wrongRecords returns records with each error, and with two errors, of which the first one decides.
func wrongRecords() []wrongRecord {
	tooMany := make([]float32, api.MaxLength+1)
	return []wrongRecord{
		{"no name", signal.Record{Rate: 48}, api.ErrName},
		{"digit first", signal.Record{Name: "1a", Rate: 48}, api.ErrName},
		{"name before rate", signal.Record{Name: "_", Rate: 0}, api.ErrName},
		{"rate 0", signal.Record{Name: "a"}, api.ErrRange},
		{"rate below 0", signal.Record{Name: "a", Rate: -1}, api.ErrRange},
		{"rate too high", signal.Record{Name: "a", Rate: signal.MaxRate + 1}, api.ErrRange},
		{"rate before many", signal.Record{Name: "a", Rate: 0, Samples: tooMany}, api.ErrRange},
		{"too many", record(tooMany...), api.ErrMany},
		{"many before form", record(append([]float32{nan}, tooMany...)...), api.ErrMany},
		{"NaN", record(1, nan), api.ErrForm},
		{"infinite", record(infinite), api.ErrForm},
		{"no multiple", record(0, 1, 0.03125), api.ErrRange},
		{"too large", record(2048.0625), api.ErrRange},
		{"range before form", record(0, 3000, nan), api.ErrRange},
		{"form before range", record(0, -infinite, 3000), api.ErrForm},
	}
}

// wrongSequence is a sequence with its error.
type wrongSequence struct {
	what string
	l    []int
	e    api.Errno
}

func wrongSequences() []wrongSequence {
	const most = signal.MaxLevel
	return []wrongSequence{
		{"too many", make([]int, api.MaxLength+1), api.ErrMany},
		{"many before range", repeated(most+1, api.MaxLength+1), api.ErrMany},
		{"above", []int{0, most + 1}, api.ErrRange},
		{"below", []int{1, 2, -most - 1, 3}, api.ErrRange},
		{"far above", []int{math.MaxInt}, api.ErrRange},
		{"far below", []int{math.MinInt}, api.ErrRange},
	}
}

// nothing requires the zero record beside an error.
func nothing(t *testing.T, what string, got signal.Record, e, wanted api.Errno) {
	t.Helper()
	equal(t, what, e, wanted)
	equalRecord(t, what, got, signal.Record{})
}
