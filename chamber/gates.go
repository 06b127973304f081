package chamber

import (
	"slices"

	"woofer/api"
	"woofer/common"
	"woofer/signal"
)

// Gate returns a gated response, and the energy that is removed.
func Gate(h []int, from, to int) ([]int, int, api.Errno) {
	outside := from < 0 || from > to || to > len(h)
	if e := common.First(CheckResponse(h), common.When(outside, api.ErrSpan)); e != api.OK {
		return nil, 0, e
	}
	gated := slices.Clone(h)
	clear(gated[:from])
	clear(gated[to:])
	return gated, energyOf(h) - energyOf(gated), api.OK
}

// Resolution returns the resolution of a gate.
func Resolution(rate, length int) (api.Ratio, api.Errno) {
	e := common.First(
		common.CheckRange(rate, 1, signal.MaxRate),
		checkLength(length),
	)
	if e != api.OK {
		return api.Ratio{}, e
	}
	return quotient(rate, length)
}

// checkLength returns the error of the length of a gate or a window, or OK.
func checkLength(n int) api.Errno {
	return common.CheckRange(n, 1, MaxResponse)
}

// firstIndex returns the first index below n at which something holds, or ErrNone.
func firstIndex(n int, holds func(i int) bool) (int, api.Errno) {
	first, e := 0, api.ErrNone
search:
	for i := range n {
		if holds(i) {
			first, e = i, api.OK
			break search
		}
	}
	return first, e
}

// Arrival returns the index at which a response arrives.
func Arrival(h []int, level int) (int, api.Errno) {
	if e := common.First(CheckResponse(h), common.CheckRange(level, 1, signal.MaxLevel)); e != api.OK {
		return 0, e
	}
	return firstIndex(len(h), func(i int) bool { return common.Absolute(h[i]) >= level })
}

// Reflection returns the first index at which two responses differ.
func Reflection(a, b []int, level int) (int, api.Errno) {
	e := common.First(
		CheckResponse(a),
		CheckResponse(b),
		common.When(level < 0, api.ErrRange),
		common.When(len(a) != len(b), api.ErrShape),
	)
	if e != api.OK {
		return 0, e
	}
	return firstIndex(len(a), func(i int) bool { return common.Absolute(a[i]-b[i]) > level })
}

// Decay returns the decay of a response.
func Decay(h []int) ([]int, api.Errno) {
	if e := CheckResponse(h); e != api.OK {
		return nil, e
	}
	return decayOf(h), api.OK
}

// decayOf returns the decay of a response without an error.
func decayOf(h []int) []int {
	decay := make([]int, len(h))
	rest := 0
	for i, x := range slices.Backward(h) {
		rest += x * x
		decay[i] = rest
	}
	return decay
}

// checkShare returns the first error of a share, or OK.
func checkShare(x api.Ratio) api.Errno {
	nearest := api.Ratio{Num: min(max(x.Num, 0), x.Den), Den: x.Den}
	return common.First(
		signal.CheckRatio(x),
		common.When(nearest != x, api.ErrRange),
	)
}

// Falls returns the index at which the decay falls to a share.
func Falls(h []int, share api.Ratio) (int, api.Errno) {
	e := common.First(
		CheckResponse(h),
		checkShare(share),
		common.When(len(h) == 0, api.ErrEmpty),
	)
	if e != api.OK {
		return 0, e
	}
	decay := decayOf(h)
	return firstIndex(len(h), func(i int) bool {
		// A quotient by no energy is right, too: Compare only multiplies, beyond 64 bits.
		return common.Compare(api.Ratio{Num: decay[i], Den: decay[0]}, share) <= 0
	})
}
