package money

import (
	"iter"

	"tranche/api"
	"tranche/integer"
)

// add returns the bag with the sums of the amounts of two lists, each of which
// is in strictly ascending order of its codes, and may have amounts of 0.
func add(a, b []api.Money) ([]api.Money, api.Errno) {
	var sums []api.Money
	for code, both := range currencies(a, b) {
		if sum := integer.Add(both[0], both[1]); sum != "" {
			sums = append(sums, api.Money{Currency: code, Amount: sum})
		}
	}
	// The sums are counted in the end, because amounts that cancel make room
	// for others, also for those before them.
	if len(sums) > api.MaxCurrencies {
		return nil, api.ErrLimit
	}
	return sums, api.OK
}

// currencies yields the codes of two lists, which are in strictly ascending
// order, in this order, each with its amounts in a and in b.
func currencies(a, b []api.Money) iter.Seq2[string, [2]api.Int] {
	return func(yield func(string, [2]api.Int) bool) {
		restA, restB := a, b
		for len(restA) > 0 || len(restB) > 0 {
			code := lowerCode(restA, restB)
			var both [2]api.Int
			both[0], restA = take(restA, code)
			both[1], restB = take(restB, code)
			if !yield(code, both) {
				return
			}
		}
	}
}

// lowerCode returns the lower one of the first codes of two lists, of which at least one is not empty.
func lowerCode(a, b []api.Money) string {
	if len(b) == 0 || len(a) > 0 && a[0].Currency < b[0].Currency {
		return a[0].Currency
	}
	return b[0].Currency
}

// take returns the first amount of a list and what is behind it, if it is in
// the currency with this code, and otherwise 0 and the list.
func take(l []api.Money, code string) (api.Int, []api.Money) {
	if len(l) == 0 || l[0].Currency != code {
		return "", l
	}
	return l[0].Amount, l[1:]
}
