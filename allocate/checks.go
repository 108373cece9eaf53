package allocate

import (
	"slices"

	"tranche/api"
	"tranche/fraction"
	"tranche/integer"
)

// weigh returns the sum of the weights, or why total cannot be divided by them.
func weigh(total api.Int, weights []api.Int) (api.Int, api.Errno) {
	if e := checkCount(len(weights)); e != api.OK {
		return "", e
	}
	if !areCanonical(total) || !areCanonical(weights...) || slices.ContainsFunc(weights, isNegative) {
		return "", api.ErrArgument
	}
	sum := addUp(weights)
	if sum == "" {
		return "", api.ErrDivide
	}
	return sum, api.OK
}

// checkCount returns why there cannot be so many weights.
func checkCount(count int) api.Errno {
	switch {
	case count == 0:
		return api.ErrEmpty
	case count > api.MaxWeights:
		return api.ErrLimit
	}
	return api.OK
}

// checkFractions returns why total cannot be divided by fractions with any sum.
func checkFractions(total api.Int, l []api.Frac) api.Errno {
	if e := checkCount(len(l)); e != api.OK {
		return e
	}
	isWrong := func(f api.Frac) bool {
		return fraction.Check(f) != api.OK || isNegative(f.Num)
	}
	if !areCanonical(total) || slices.ContainsFunc(l, isWrong) {
		return api.ErrArgument
	}
	return api.OK
}

// checkShare returns why there is no share of total for a part of a whole.
func checkShare(total, part, whole api.Int) api.Errno {
	switch {
	case !areCanonical(total, part, whole):
		return api.ErrArgument
	case whole == "":
		return api.ErrDivide
	case isNegative(part) || integer.Compare(part, whole) > 0:
		// This is always so if the whole is negative.
		return api.ErrRange
	}
	return api.OK
}

// areCanonical returns whether all numbers are canonical.
func areCanonical(l ...api.Int) bool {
	for _, a := range l {
		if integer.Check(a) != api.OK {
			return false
		}
	}
	return true
}
