package signal

import (
	"math"

	"woofer/api"
	"woofer/common"
)

// The permutation's generator: its keys are from 1 to modulus - 1.
const (
	multiplier = 630360016
	modulus    = 2147483647
)

// IsName reports whether a string is a name.
func IsName(s string) bool {
	if !common.Within(len(s), 1, api.MaxName) {
		return false
	}
	for i, c := range s {
		if !isLetter(c) && (i == 0 || !isDigit(c) && c != '_') {
			return false
		}
	}
	return true
}

func isLetter(c rune) bool {
	return common.Within(c, 'A', 'Z') || common.Within(c, 'a', 'z')
}

func isDigit(c rune) bool {
	return common.Within(c, '0', '9')
}

// Draw returns the permutation of n elements by a key.
func Draw(key, n int) ([]int, api.Errno) {
	e := common.First(
		common.CheckRange(key, 1, modulus-1),
		common.CheckRange(n, 0, api.MaxList),
	)
	if e != api.OK {
		return nil, e
	}
	list := make([]int, n)
	for i := range list {
		list[i] = i
	}
	x := key
	for i := n - 1; i > 0; i-- {
		x = multiplier * x % modulus
		j := x % (i + 1)
		list[i], list[j] = list[j], list[i]
	}
	return list, api.OK
}

// CheckRatio returns the error of a ratio, or OK.
func CheckRatio(x api.Ratio) api.Errno {
	if !common.Within(x.Num, -api.MaxNumber, api.MaxNumber) || !common.Within(x.Den, 1, api.MaxNumber) {
		return api.ErrRange
	}
	return common.When(common.Lowest(x) != x, api.ErrForm)
}

// CheckSample returns the error of a sample, or OK.
func CheckSample(x float32) api.Errno {
	return checkSteps(x, api.MaxSample)
}

// checkSteps returns the error of a multiple of 1 / steps from -most to most.
func checkSteps(x float32, most float64) api.Errno {
	v := float64(x)
	if math.IsNaN(v) || math.IsInf(v, 0) {
		return api.ErrForm
	}
	return common.When(!common.Within(v, -most, most) || v*steps != math.Trunc(v*steps), api.ErrRange)
}

// checkSamples returns the first error of samples, or OK.
func checkSamples(list []float32) api.Errno {
	if len(list) > api.MaxLength {
		return api.ErrMany
	}
	wrong := api.OK
search:
	for _, x := range list {
		switch wrong = CheckSample(x); wrong {
		case api.ErrForm, api.ErrRange:
			break search
		}
	}
	return wrong
}

// CheckRecord returns the first error of a record, or OK.
func CheckRecord(r Record) api.Errno {
	return common.First(checkHead(r.Name, r.Rate), checkSamples(r.Samples))
}

// checkHead returns the first error of the name and the rate of a record, or OK.
func checkHead(name string, rate int) api.Errno {
	return common.First(
		common.When(!IsName(name), api.ErrName),
		common.CheckRange(rate, 1, MaxRate),
	)
}
