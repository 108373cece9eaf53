package decimal

import (
	"strings"

	"tranche/api"
	"tranche/integer"
)

// arePlaces returns whether texts can have so many places.
func arePlaces(places int) bool {
	return places >= 0 && places <= api.MaxPlaces
}

// tenTo returns 10 to the power n, which must not be negative. Texts can have
// more places than the exponents of layer 1 allow.
func tenTo(n int) api.Int {
	return api.Int("1" + strings.Repeat("0", n))
}

// write returns the text of the units with any number of places that is not negative.
func write(units api.Int, places int) string {
	digits, negative := strings.CutPrefix(integer.Print(units), "-")
	var text strings.Builder
	if negative {
		text.WriteByte('-')
	}
	digits = strings.Repeat("0", max(0, places+1-len(digits))) + digits
	point := len(digits) - places
	text.WriteString(digits[:point])
	if places > 0 {
		text.WriteByte('.')
		text.WriteString(digits[point:])
	}
	return text.String()
}

// read returns the units and the places of which s is the text.
func read(s string) (api.Int, int, api.Errno) {
	if len(s) > api.MaxText {
		return "", 0, api.ErrLimit
	}
	before, behind, _ := strings.Cut(s, ".")
	units, places := integer.Canonical(api.Int(before+behind)), len(behind)
	// Units have only one text with these places: any other form of s differs from it.
	if write(units, places) != s {
		return "", 0, api.ErrSyntax
	}
	return units, places, api.OK
}

// remove returns how often factor divides n, and n without it. The factor must
// be at least 2, and n at least 1.
func remove(factor, n api.Int) (int, api.Int) {
	quotient, rest, _ := integer.Div(n, factor)
	if rest != "" {
		return 0, n
	}
	// The square is removed first, because long numbers can have a factor very
	// often; it may leave the factor once.
	pairs, left := remove(integer.Mul(factor, factor), quotient)
	if once, rest, _ := integer.Div(left, factor); rest == "" {
		return 2*pairs + 2, once
	}
	return 2*pairs + 1, left
}
