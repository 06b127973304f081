package chamber

import (
	"slices"

	"woofer/api"
	"woofer/common"
)

// The kinds of windows.
const (
	bell = "bell"
	flat = "flat"
	ramp = "ramp"
)

// Kinds returns the kinds of windows, in order.
func Kinds() []string {
	return []string{bell, flat, ramp}
}

// window is how the weights of a kind are counted: Weight times the part at an index, divided by the whole, rounded down.
type window struct {
	part  func(i, n int) int
	whole func(n int) int
}

// windows returns the window of each kind.
func windows() map[string]window {
	return map[string]window{
		bell: {
			part:  func(i, n int) int { return 2 * min(i+1, n-i) },
			whole: func(n int) int { return n + 1 },
		},
		flat: {
			part:  func(i, n int) int { return n },
			whole: func(n int) int { return n },
		},
		ramp: {
			part:  func(i, n int) int { return n - i },
			whole: func(n int) int { return n },
		},
	}
}

// Window returns the weights of a window.
func Window(kind string, n int) ([]int, api.Errno) {
	w, isKind := windows()[kind]
	if e := common.First(common.When(!isKind, api.ErrKind), checkLength(n)); e != api.OK {
		return nil, e
	}
	weights := make([]int, n)
	for i := range weights {
		weights[i] = Weight * w.part(i, n) / w.whole(n)
	}
	return weights, api.OK
}

// Weigh returns a response times weights.
func Weigh(h, weights []int) ([]int, api.Errno) {
	e := common.First(
		CheckResponse(h),
		CheckResponse(weights),
		common.When(len(h) != len(weights), api.ErrShape),
	)
	if e != api.OK {
		return nil, e
	}
	weighed := slices.Clone(h)
	for i, w := range weights {
		weighed[i] *= w
	}
	if CheckResponse(weighed) != api.OK {
		return nil, api.ErrLarge
	}
	return weighed, api.OK
}
