package chamber

import (
	"woofer/api"
	"woofer/common"
)

// checkRepeats returns the first error of repeats, or OK.
func checkRepeats(l [][]int) api.Errno {
	return common.First(
		common.When(len(l) == 0, api.ErrEmpty),
		common.When(len(l) > MaxRepeats, api.ErrMany),
		checkAlike(l),
	)
}

// sumsOf returns the sum of repeats without an error at each index.
func sumsOf(l [][]int) []int {
	sums := make([]int, len(l[0]))
	for _, h := range l {
		for i, x := range h {
			sums[i] += x
		}
	}
	return sums
}

// Average returns the average of repeats.
func Average(l [][]int) ([]api.Ratio, api.Errno) {
	if e := checkRepeats(l); e != api.OK {
		return nil, e
	}
	return common.Mapped(sumsOf(l), func(sum int) api.Ratio {
		return common.Lowest(api.Ratio{Num: sum, Den: len(l)})
	}), api.OK
}

// Noise returns the noise of repeats.
func Noise(l [][]int) (int, api.Errno) {
	if e := checkRepeats(l); e != api.OK {
		return 0, e
	}
	noise := 0
	sums := sumsOf(l)
	for _, h := range l {
		for i, x := range h {
			difference := len(l)*x - sums[i]
			noise += difference * difference
		}
	}
	return noise, api.OK
}
