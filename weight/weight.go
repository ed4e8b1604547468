// Package weight: what ways cost.
package weight

import (
	"strconv"

	"tropica/api"
)

const infText = "inf"

// Plus: the lesser one.
func Plus(a, b int) (int, api.Errno) {
	if !areWeights(a, b) {
		return 0, api.ErrRange
	}
	return least(a, b), api.OK
}

// Times: one behind the other.
func Times(a, b int) (int, api.Errno) {
	switch {
	case !areWeights(a, b):
		return 0, api.ErrRange
	case a == api.Inf || b == api.Inf:
		return api.Inf, api.OK
	case a+b > api.MaxWeight:
		return 0, api.ErrOver
	}
	return a + b, api.OK
}

// Over: what is left of a behind b.
func Over(a, b int) (int, api.Errno) {
	switch {
	case !areWeights(a, b):
		return 0, api.ErrRange
	case b == api.Inf || a < b:
		return 0, api.ErrNone
	case a == api.Inf:
		return api.Inf, api.OK
	}
	return a - b, api.OK
}

// Sum: the least of all.
func Sum(l []int) (int, api.Errno) {
	if len(l) > api.MaxArcs {
		return 0, api.ErrSize
	}
	if !areWeights(l...) {
		return 0, api.ErrRange
	}
	return least(l...), api.OK
}

// Show a weight.
func Show(w int) (string, api.Errno) {
	if !areWeights(w) {
		return "", api.ErrRange
	}
	if w == api.Inf {
		return infText, api.OK
	}
	return strconv.Itoa(w), api.OK
}

// Read a weight.
func Read(s string) (int, api.Errno) {
	switch {
	case s == infText:
		return api.Inf, api.OK
	case len(s) > api.MaxNumber:
		return 0, api.ErrSize
	case !isNumber(s):
		return 0, api.ErrForm
	}
	// MaxNumber digits never leave 64 bits, so the value can be held against MaxWeight afterwards.
	w := numberOf(s)
	if w > api.MaxWeight {
		return 0, api.ErrOver
	}
	return w, api.OK
}

// least of any number of weights; Inf is above all others, and so is the least of none.
func least(l ...int) int {
	lowest := api.Inf
	for _, w := range l {
		lowest = min(lowest, w)
	}
	return lowest
}

// areWeights: each one is from 0 to MaxWeight, or Inf.
func areWeights(l ...int) bool {
	for _, w := range l {
		if w != api.Inf && (w < 0 || w > api.MaxWeight) {
			return false
		}
	}
	return true
}

// isNumber: decimal digits, one at least, without noughts ahead.
func isNumber(s string) bool {
	if s == "" || s[0] == '0' && len(s) > 1 {
		return false
	}
	for i := range len(s) {
		if s[i] < '0' || s[i] > '9' {
			return false
		}
	}
	return true
}

// numberOf decimal digits.
func numberOf(s string) int {
	n := 0
	for i := range len(s) {
		n = n*10 + int(s[i]-'0')
	}
	return n
}
