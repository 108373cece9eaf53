package allocate

import (
	"iter"
	"slices"

	"tranche/api"
	"tranche/fraction"
	"tranche/integer"
)

// divide returns the division of total by weights with a sum, which is not 0.
func divide(total api.Int, weights []api.Int, sum api.Int) []api.Int {
	parts := make([]api.Int, len(weights))
	remainders := make([]api.Int, len(weights))
	// Without the sign of total, rounding down is rounding towards 0.
	amount := size(total)
	missing := amount
	for i, weight := range weights {
		parts[i], remainders[i], _ = integer.Div(integer.Mul(amount, weight), sum)
		missing = integer.Sub(missing, parts[i])
	}
	byRemainder := func(i, j int) int {
		return integer.Compare(remainders[j], remainders[i])
	}
	// Each remainder is less than the sum, and so fewer units are missing than
	// there are remainders other than 0: no part gets two, or any for the weight 0.
	units, _ := integer.Small(missing)
	for _, i := range ordered(len(parts), byRemainder)[:units] {
		parts[i] = integer.Add(parts[i], "1")
	}
	if isNegative(total) {
		for i, part := range parts {
			parts[i] = integer.Neg(part)
		}
	}
	return parts
}

// ordered returns the indices less than count in an order; equal ones ascend.
func ordered(count int, compare func(i, j int) int) []int {
	indices := make([]int, count)
	for i := range indices {
		indices[i] = i
	}
	slices.SortStableFunc(indices, compare)
	return indices
}

// beginnings yields the sum of each beginning of l, from that of the first
// element alone to that of all elements.
func beginnings(l []api.Int) iter.Seq[api.Int] {
	return func(yield func(api.Int) bool) {
		sum := api.Int("")
		for _, a := range l {
			sum = integer.Add(sum, a)
			if !yield(sum) {
				return
			}
		}
	}
}

// addUp returns the sum of all elements, which is that of the last beginning.
func addUp(l []api.Int) api.Int {
	sum := api.Int("")
	for beginning := range beginnings(l) {
		sum = beginning
	}
	return sum
}

// commonDenominator returns the least common multiple of the denominators.
func commonDenominator(l []api.Frac) api.Int {
	multiple := api.Int("1")
	for _, f := range l {
		_, den := fraction.Parts(f)
		factor, _, _ := integer.Div(den, integer.Gcd(den, multiple))
		multiple = integer.Mul(multiple, factor)
	}
	return multiple
}

// numerators returns the numerators of fractions over a common denominator.
func numerators(l []api.Frac, denominator api.Int) []api.Int {
	all := make([]api.Int, len(l))
	for i, f := range l {
		num, den := fraction.Parts(f)
		factor, _, _ := integer.Div(denominator, den)
		all[i] = integer.Mul(num, factor)
	}
	return all
}

// size returns the absolute value of a.
func size(a api.Int) api.Int {
	if isNegative(a) {
		return integer.Neg(a)
	}
	return a
}

// isNegative returns whether a is less than 0.
func isNegative(a api.Int) bool {
	return integer.Compare(a, "") < 0
}
