package works_test

import (
	"slices"
	"testing"

	"woofer/api"
	"woofer/works"
)

// P10.1: at most MaxLots lots, MaxProducts products and MaxUnits units; the errors of a new one that come before.
func TestManyThings(t *testing.T) {
	lots := numbered(works.MaxLots, func(i string) string { return "lot l" + i + " k 1 1" })
	accepts(t, lots[1:], "lot new k 1 1", api.OK)
	accepts(t, lots, "lot new k 1 1", api.ErrMany)
	accepts(t, lots, "lot new k 1 0", api.ErrRange)
	accepts(t, lots, "lot l9 k 1 1", api.ErrTwice)
	accepts(t, lots, "product p 1", api.OK)
	accepts(t, append(lots, "undo"), "lot new k 1 1", api.OK)
	products := numbered(works.MaxProducts, func(i string) string { return "product p" + i + " 1" })
	accepts(t, products[1:], "product new 1", api.OK)
	accepts(t, products, "product new 1", api.ErrMany)
	accepts(t, products, "product p0 1", api.ErrTwice)
	accepts(t, products, "lot l k 1 1", api.OK)
	units := joined(
		list("product p 1", "product q 1", "need p k 1 1", "issue p 1"),
		numbered(works.MaxUnits, func(i string) string { return "build u" + i + " p 1" }),
	)
	accepts(t, units[:len(units)-1], "build new p 1", api.OK)
	accepts(t, units, "build new p 1", api.ErrMany)
	accepts(t, units, "build new q 1", api.ErrVersion)
	accepts(t, units, "build u9 p 1", api.ErrTwice)
	accepts(t, units, "pair u0 u255 1", api.OK)
}

// P10.1: at most MaxNeeds needs and MaxTests tests of a draft; those that are there may change.
func TestManyNeedsAndTests(t *testing.T) {
	needs := joined(
		list("product p 1", "product q 1"),
		numbered(works.MaxNeeds, func(i string) string { return "need p k" + i + " 1 5" }),
	)
	accepts(t, needs[:len(needs)-1], "need p new 1 1", api.OK)
	accepts(t, needs, "need p new 1 1", api.ErrMany)
	accepts(t, needs, "need p new 1 10000", api.ErrMany)
	accepts(t, needs, "need p new 1 10001", api.ErrRange)
	accepts(t, needs, "need p new 1 0", api.OK)
	accepts(t, needs, "need p k15 1 1", api.OK)
	accepts(t, needs, "need p k0 1 0", api.OK)
	accepts(t, needs, "need q new 1 1", api.OK)
	accepts(t, needs, "test p new 1 1 1", api.OK)
	accepts(t, append(needs, "need p k0 1 0"), "need p new 1 1", api.OK)
	accepts(t, append(needs, "need p k0 1 0", "need p new 1 1"), "need p k0 1 1", api.ErrMany)
	tests := joined(
		list("product p 1", "product q 1"),
		numbered(works.MaxTests, func(i string) string { return "test p t" + i + " 1 5 6" }),
	)
	accepts(t, tests[:len(tests)-1], "test p new 1 1 2", api.OK)
	accepts(t, tests, "test p new 1 1 2", api.ErrMany)
	accepts(t, tests, "test p new 1 2 1", api.ErrOrder)
	accepts(t, tests, "test p t15 1 1 2", api.OK)
	accepts(t, tests, "test q new 1 1 2", api.OK)
	accepts(t, tests, "need p new 1 1", api.OK)
}

// P10.1: at most MaxVersion versions of a product, and MaxResults results of a unit.
func TestManyVersionsAndResults(t *testing.T) {
	versions := joined(
		list("product p 1", "product q 1", "need p k 1 1", "need q k 1 1"),
		slices.Repeat(list("issue p 1"), works.MaxVersion),
	)
	accepts(t, versions[:len(versions)-1], "issue p 1", api.OK)
	accepts(t, versions, "issue p 1", api.ErrMany)
	accepts(t, append(versions, "need p k 1 0"), "issue p 1", api.ErrEmpty)
	accepts(t, versions, "issue q 1", api.OK)
	accepts(t, append(versions, "build u p 1"), "update u 1", api.ErrVersion)
	results := joined(
		list("product p 1", "need p k 1 1", "test p t 1 1 1", "issue p 1", "build u p 1", "build v p 1"),
		slices.Repeat(list("measure u t 1 1"), works.MaxResults),
	)
	accepts(t, results[:len(results)-1], "measure u t 1 1", api.OK)
	accepts(t, results, "measure u t 1 1", api.ErrMany)
	accepts(t, results, "measure u x 1 1", api.ErrNone)
	accepts(t, results, "measure v t 1 1", api.OK)
	accepts(t, append(results, "undo"), "measure u t 1 1", api.OK)
}

// P10.1: at most MaxEvents events.
func TestManyEvents(t *testing.T) {
	lines := joined(list("lot a k 1 1"), slices.Repeat(list("hold a 1", "free a 1"), api.MaxEvents/2))[:api.MaxEvents]
	l := entries(lines...)
	held := register{Day: 1, Lots: list(lot{Name: "a", Kind: "k", Count: 1, Left: 1, Held: true})}
	same(t, "Replay", replayed(t, l), held)
	same(t, "the last one", works.Accepts(l[:len(l)-1], l[len(l)-1]), api.OK)
	same(t, "the last one", works.Accepts(l[:len(l)-1], entry(len(l), "undo")), api.OK)
	for _, line := range []string{"free a 1", "undo", "hold a 1", "ship x 0"} {
		same(t, "one more", works.Accepts(l, entry(api.MaxEvents, line)), api.ErrMany)
		same(t, "one more", works.Accepts(l, entry(1, line)), api.ErrMany)
		same(t, "one more", works.Accepts(l, entry(api.MaxEvents+1, line)), api.ErrRange)
	}
	same(t, "one more of no kind", works.Accepts(l, event{Number: 9, Kind: "x"}), api.ErrKind)
	same(t, "one more with a Text", works.Accepts(l, event{Number: 9, Kind: "undo", Text: "x"}), api.ErrForm)
	for _, many := range [][]event{append(l, entry(api.MaxEvents+1, "free a 1")), make([]event, api.MaxEvents+1), make([]event, 9999)} {
		r, number, e := works.Replay(many)
		same(t, "Replay", []any{r, number, e}, []any{register{}, 0, api.ErrMany})
		failsEverywhere(t, many, api.ErrMany)
	}
}

// failsEverywhere requires the error of Replay of all functions that have events as an argument, before all others.
func failsEverywhere(t *testing.T, l []event, e api.Errno) {
	t.Helper()
	same(t, "Accepts", works.Accepts(l, event{}), e)
	fails[register](t, "AsOf", e)(works.AsOf(l, -1))
	fails[[]string](t, "MadeFrom", e)(works.MadeFrom(l, "none"))
	fails[[]string](t, "WhereUsed", e)(works.WhereUsed(l, "none"))
	fails[[]string](t, "Recall", e)(works.Recall(l, make([]string, 999)))
	fails[[]string](t, "Causes", e)(works.Causes(l, nil))
	fails[[]string](t, "Missing", e)(works.Missing(l, "none"))
	fails[int](t, "Stock", e)(works.Stock(l, "9"))
	same(t, "Ready", works.Ready(l, "none"), e)
}

// P10.1, P10.2: the number of the first event that has an error; each function returns this error, before all others.
func TestFirstError(t *testing.T) {
	for at, x := range map[int]wrongEvent{
		0:  {entry(1, "undo"), api.ErrEmpty},
		1:  {entry(1, "product other 1"), api.ErrOrder},
		4:  {entry(5, "need box coil 0 1"), api.ErrState},
		7:  {entry(8, "build u1 none 3"), api.ErrUnknown},
		9:  {entry(10, "use u1 coil_1 3 6"), api.ErrLarge},
		10: {entry(11, "ship u1 3"), api.ErrFail},
		3:  {entry(4, "need box cone 1"), api.ErrShape},
		6:  {event{}, api.ErrRange},
	} {
		l := example()
		l[at] = x.e
		for n := at + 1; n <= len(l); n++ {
			r, number, e := works.Replay(l[:n])
			same(t, "Replay", []any{r, number, e}, []any{register{}, at + 1, x.err})
			failsEverywhere(t, l[:n], x.err)
		}
		replayed(t, l[:at])
	}
}
