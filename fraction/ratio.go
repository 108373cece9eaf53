package fraction

import (
	"tranche/api"
	"tranche/integer"
)

// ratio is a number num / den. The denominator is at least 1, but both may
// have common divisors, and be integers that are not canonical.
type ratio struct {
	num, den api.Int
}

// operation is the number of one of the four operations.
type operation int

const (
	plus operation = iota
	minus
	times
	over
)

// apply returns the result of an operation on two values, which read turns
// into ratios. The second one must not be 0 in a division.
func apply[T any](number operation, read func(T) ratio, a, b T) ratio {
	operations := [...]func(x, y ratio) ratio{plus: add, minus: subtract, times: multiply, over: divide}
	return operations[number](read(a), read(b))
}

func add(x, y ratio) ratio {
	return ratio{integer.Add(integer.Mul(x.num, y.den), integer.Mul(y.num, x.den)), integer.Mul(x.den, y.den)}
}

func subtract(x, y ratio) ratio {
	return add(x, ratio{integer.Neg(y.num), y.den})
}

func multiply(x, y ratio) ratio {
	return ratio{integer.Mul(x.num, y.num), integer.Mul(x.den, y.den)}
}

func divide(x, y ratio) ratio {
	return multiply(x, quotient(y.den, y.num))
}

// quotient returns n / d, for a d that is not 0.
func quotient(n, d api.Int) ratio {
	if integer.Compare(d, "") < 0 {
		return ratio{integer.Neg(n), integer.Neg(d)}
	}
	return ratio{n, d}
}

// whole returns the value of an integer.
func whole(a api.Int) ratio {
	return ratio{a, "1"}
}

// value returns the value of a fraction.
func value(f api.Frac) ratio {
	if isZero(f.Den) {
		return whole(f.Num)
	}
	return quotient(f.Num, f.Den)
}

// isZero returns whether the value of a is 0.
func isZero(a api.Int) bool {
	return integer.Canonical(a) == ""
}

// lowest returns r in lowest terms, with canonical integers.
func lowest(r ratio) ratio {
	divisor := integer.Gcd(r.num, r.den)
	num, _, _ := integer.Div(r.num, divisor)
	den, _, _ := integer.Div(r.den, divisor)
	return ratio{num, den}
}

// canonical returns the canonical fraction with the value of r.
func canonical(r ratio) api.Frac {
	return pack(lowest(r))
}

// pack returns the canonical fraction with the value of r, which is in lowest terms.
func pack(r ratio) api.Frac {
	if r.den == "1" {
		r.den = ""
	}
	return api.Frac{Num: r.num, Den: r.den}
}

// text returns the text of r, which is in lowest terms.
func text(r ratio) string {
	if r.den == "1" {
		return integer.Print(r.num)
	}
	return integer.Print(r.num) + "/" + integer.Print(r.den)
}
