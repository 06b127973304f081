package works

import (
	"woofer/api"
	"woofer/common"
)

// The functions of this file return the first error, by the rule of its kind, with which an event is not accepted, or OK.

func checkLot(r Register, e api.Event) api.Errno {
	return common.First(
		common.When(r.hasLot(e.Names[0]), api.ErrTwice),
		common.CheckRange(e.Values[1], 1, MaxCount),
		common.When(len(r.Lots) == MaxLots, api.ErrMany),
	)
}

func checkProduct(r Register, e api.Event) api.Errno {
	return common.First(
		common.When(r.hasProduct(e.Names[0]), api.ErrTwice),
		common.When(len(r.Products) == MaxProducts, api.ErrMany),
	)
}

func checkNeed(r Register, e api.Event) api.Errno {
	needs := find(r.Products, e.Names[0]).Draft.Needs
	count := e.Values[1]
	isNew := count > 0 && !has(needs, e.Names[1])
	return common.First(
		common.When(count > MaxCount, api.ErrRange),
		common.When(isNew && len(needs) == MaxNeeds, api.ErrMany),
	)
}

func checkTest(r Register, e api.Event) api.Errno {
	tests := find(r.Products, e.Names[0]).Draft.Tests
	return common.First(
		common.When(e.Values[2] < e.Values[1], api.ErrOrder),
		common.When(!has(tests, e.Names[1]) && len(tests) == MaxTests, api.ErrMany),
	)
}

func checkIssue(r Register, e api.Event) api.Errno {
	p := find(r.Products, e.Names[0])
	return common.First(
		common.When(len(p.Draft.Needs) == 0, api.ErrEmpty),
		common.When(len(p.Documents) == MaxVersion, api.ErrMany),
	)
}

func checkBuild(r Register, e api.Event) api.Errno {
	return common.First(
		common.When(r.hasUnit(e.Names[0]), api.ErrTwice),
		common.When(r.versionOf(e.Names[1]) == 0, api.ErrVersion),
		common.When(len(r.Units) == MaxUnits, api.ErrMany),
	)
}

func checkUse(r Register, e api.Event) api.Errno {
	u, lot := find(r.Units, e.Names[0]), find(r.Lots, e.Names[1])
	count := e.Values[1]
	return common.First(
		common.When(u.Shipped, api.ErrOver),
		common.When(count == 0, api.ErrRange),
		common.When(lot.Held, api.ErrHold),
		common.When(!has(r.documentOf(u).Needs, lot.Kind), api.ErrNone),
		common.When(lot.Left < count, api.ErrLarge),
	)
}

func checkMeasure(r Register, e api.Event) api.Errno {
	u := find(r.Units, e.Names[0])
	return common.First(
		common.When(u.Shipped, api.ErrOver),
		common.When(!has(r.documentOf(u).Tests, e.Names[1]), api.ErrNone),
		common.When(len(u.Results) == MaxResults, api.ErrMany),
	)
}

func checkUpdate(r Register, e api.Event) api.Errno {
	u := find(r.Units, e.Names[0])
	return common.First(
		common.When(u.Shipped, api.ErrOver),
		common.When(u.Version == r.versionOf(u.Product), api.ErrVersion),
	)
}

func checkPair(r Register, e api.Event) api.Errno {
	a, b := find(r.Units, e.Names[0]), find(r.Units, e.Names[1])
	return common.First(
		common.When(a.Name == b.Name, api.ErrTwice),
		common.When(a.Product != b.Product || a.Version != b.Version, api.ErrConflict),
		common.When(a.Shipped || b.Shipped, api.ErrOver),
		common.When(a.Partner != "" || b.Partner != "", api.ErrMatch),
	)
}

func checkHold(r Register, e api.Event) api.Errno {
	return common.When(find(r.Lots, e.Names[0]).Held, api.ErrHold)
}

func checkFree(r Register, e api.Event) api.Errno {
	return common.When(!find(r.Lots, e.Names[0]).Held, api.ErrState)
}

func checkShip(r Register, e api.Event) api.Errno {
	return r.checkReady(find(r.Units, e.Names[0]))
}

func checkComplain(r Register, e api.Event) api.Errno {
	return common.When(!find(r.Units, e.Names[0]).Shipped, api.ErrState)
}
