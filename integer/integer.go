// Package integer is layer 1 (exact integers): see shared/doc/01-integer.md.
package integer

import (
	"cmp"
	"math/bits"
	"strconv"
	"strings"

	"tranche/api"
)

// maxPower is the greatest exponent of Power.
const maxPower = 400

// Check returns why a is not canonical.
func Check(a api.Int) api.Errno {
	if Canonical(a) != a {
		return api.ErrArgument
	}
	return api.OK
}

// Canonical returns the canonical integer with the value of a.
func Canonical(a api.Int) api.Int {
	return join(split(a))
}

// Of returns n as an integer.
func Of(n int) api.Int {
	if n == 0 {
		return ""
	}
	return api.Int(strconv.Itoa(n))
}

// Small returns the value as an int, if it fits.
func Small(a api.Int) (int, bool) {
	n, err := strconv.ParseInt(Print(a), 10, 64)
	if err != nil {
		return 0, false
	}
	return int(n), true
}

// Neg returns the opposite.
func Neg(a api.Int) api.Int {
	negative, digits := split(a)
	return join(!negative, digits)
}

// Add returns the sum.
func Add(a, b api.Int) api.Int {
	negativeA, x := read(a)
	negativeB, y := read(b)
	if negativeA == negativeB {
		return write(negativeA, combine(x, y, 1))
	}
	if compareGroups(x, y) < 0 {
		return write(negativeB, combine(y, x, -1))
	}
	return write(negativeA, combine(x, y, -1))
}

// Sub returns the difference.
func Sub(a, b api.Int) api.Int {
	return Add(a, Neg(b))
}

// Mul returns the product.
func Mul(a, b api.Int) api.Int {
	negativeA, x := read(a)
	negativeB, y := read(b)
	return write(negativeA != negativeB, trim(multiply(x, y)))
}

// Div returns the quotient, rounded down, and the remainder.
func Div(a, b api.Int) (api.Int, api.Int, api.Errno) {
	negativeA, x := read(a)
	negativeB, y := read(b)
	if len(y) == 0 {
		return "", "", api.ErrDivide
	}
	quotient, rest := divide(x, y)
	// Without signs the quotient is rounded towards zero. If it is negative,
	// rounding down leads one multiple of b further, to the other side of a.
	if negativeA != negativeB && len(rest) > 0 {
		quotient = combine(quotient, []int{1}, 1)
		rest = combine(y, rest, -1)
	}
	return write(negativeA != negativeB, quotient), write(negativeB, rest), api.OK
}

// Gcd returns the greatest common divisor.
func Gcd(a, b api.Int) api.Int {
	_, x := read(a)
	_, y := read(b)
	for _, rest := range quotients(x, y) {
		x, y = y, rest
	}
	return write(false, x)
}

// Compare compares two values.
func Compare(a, b api.Int) int {
	negativeA, x := split(a)
	negativeB, y := split(b)
	switch {
	case negativeA && negativeB:
		return compareDigits(y, x)
	case negativeA:
		return -1
	case negativeB:
		return 1
	}
	return compareDigits(x, y)
}

// Power returns a to the power n.
func Power(a api.Int, n int) (api.Int, api.Errno) {
	if n < 0 || n > maxPower {
		return "", api.ErrRange
	}
	power := Of(1)
	for i := bits.Len(uint(n)) - 1; i >= 0; i-- {
		power = Mul(power, power)
		if n>>i&1 == 1 {
			power = Mul(power, a)
		}
	}
	return power, api.OK
}

// Print returns the text.
func Print(a api.Int) string {
	if a = Canonical(a); a == "" {
		return "0"
	}
	return string(a)
}

// Parse returns the integer with a text.
func Parse(s string) (api.Int, api.Errno) {
	if len(s) > api.MaxText {
		return "", api.ErrLimit
	}
	a := Canonical(api.Int(s))
	if Print(a) != s {
		return "", api.ErrSyntax
	}
	return a, api.OK
}

// split returns whether the value of a is negative, and its digits without leading zeros.
func split(a api.Int) (bool, string) {
	digits, negative := strings.CutPrefix(string(a), "-")
	for i := range len(digits) {
		if digits[i] < '0' || digits[i] > '9' {
			return false, ""
		}
	}
	digits = strings.TrimLeft(digits, "0")
	return negative && digits != "", digits
}

// join returns the integer with a sign and digits, which have no leading zeros.
func join(negative bool, digits string) api.Int {
	if negative && digits != "" {
		return api.Int("-" + digits)
	}
	return api.Int(digits)
}

// compareDigits compares numbers whose digits have no leading zeros.
func compareDigits(x, y string) int {
	return cmp.Or(cmp.Compare(len(x), len(y)), strings.Compare(x, y))
}
