package money

import (
	"tranche/api"
	"tranche/integer"
)

// codeLength is the number of letters of a code.
const codeLength = 3

// isCode returns whether s can be the code of a currency.
func isCode(s string) bool {
	if len(s) != codeLength {
		return false
	}
	for i := range codeLength {
		if s[i] < 'A' || s[i] > 'Z' {
			return false
		}
	}
	return true
}

// checkCurrency returns why a currency cannot stand in a table behind those before it.
func checkCurrency(c api.Currency, before []api.Currency) api.Errno {
	if !isCode(c.Code) {
		return api.ErrName
	}
	if c.Places < 0 || c.Places > api.MaxPlaces {
		return api.ErrRange
	}
	if _, found := Find(before, c.Code); found {
		return api.ErrExists
	}
	return api.OK
}

// checkMoney returns why m is not a canonical amount, which may be 0, of a currency.
func checkMoney(m api.Money) api.Errno {
	if !isCode(m.Currency) {
		return api.ErrName
	}
	return integer.Check(m.Amount)
}

// first returns the first element for which a condition holds, and whether there is one.
func first[T any](l []T, holds func(T) bool) (T, bool) {
	for _, element := range l {
		if holds(element) {
			return element, true
		}
	}
	var none T
	return none, false
}
