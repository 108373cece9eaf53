package decimal_test

import (
	"math/big"
	"math/rand"
	"regexp"
	"strings"

	"tranche/api"
)

var (
	integerText = regexp.MustCompile(`^(-?)([0-9]*)$`)
	decimalText = regexp.MustCompile(`^(0|[1-9][0-9]*|-(0|[1-9][0-9]*))(\.[0-9]+)?$`)
)

// number returns the value of an integer, as chapter 1 defines it.
func number(a api.Int) *big.Int {
	match := integerText.FindStringSubmatch(string(a))
	if match == nil {
		return new(big.Int)
	}
	n, _ := new(big.Int).SetString(match[1]+"0"+match[2], 10)
	return n
}

// rational returns the value of a fraction, as chapter 2 defines it.
func rational(f api.Frac) *big.Rat {
	den := number(f.Den)
	if den.Sign() == 0 {
		den.SetInt64(1)
	}
	return new(big.Rat).SetFrac(number(f.Num), den)
}

// whole returns the canonical integer with the value n.
func whole(n *big.Int) api.Int {
	if n.Sign() == 0 {
		return ""
	}
	return api.Int(n.String())
}

// canonical returns the canonical fraction with the value r.
func canonical(r *big.Rat) api.Frac {
	f := api.Frac{Num: whole(r.Num())}
	if !r.IsInt() {
		f.Den = whole(r.Denom())
	}
	return f
}

// frac returns a fraction, as it is written here.
func frac(num, den api.Int) api.Frac {
	return api.Frac{Num: num, Den: den}
}

// tenTo returns 10 to the power n.
func tenTo(n int) *big.Int {
	return new(big.Int).Exp(big.NewInt(10), big.NewInt(int64(n)), nil)
}

// times returns x * n.
func times(x *big.Rat, n *big.Int) *big.Rat {
	return new(big.Rat).Mul(x, new(big.Rat).SetInt(n))
}

// isDecimal returns whether s is a decimal text, as the chapter defines it.
func isDecimal(s string) bool {
	return decimalText.MatchString(s) && (s[0] != '-' || strings.ContainsAny(s, "123456789"))
}

// value returns the value of a decimal text.
func value(s string) *big.Rat {
	r, _ := new(big.Rat).SetString(s)
	return r
}

// modes returns all modes.
func modes() []int {
	return []int{api.HalfEven, api.HalfUp, api.Down, api.Up, api.Floor, api.Ceiling}
}

// rounded returns x, rounded as the chapter defines it, by the distances to the integers on both sides.
func rounded(x *big.Rat, mode int) *big.Int {
	floor := new(big.Int).Div(x.Num(), x.Denom())
	if x.IsInt() {
		return floor
	}
	ceiling := new(big.Int).Add(floor, big.NewInt(1))
	inner, outer := floor, ceiling
	if x.Sign() < 0 {
		inner, outer = ceiling, floor
	}
	switch mode {
	case api.Down:
		return inner
	case api.Up:
		return outer
	case api.Floor:
		return floor
	case api.Ceiling:
		return ceiling
	}
	order := distance(x, inner).Cmp(distance(x, outer))
	if order < 0 || order == 0 && mode == api.HalfEven && inner.Bit(0) == 0 {
		return inner
	}
	return outer
}

// distance returns the absolute value of x - n.
func distance(x *big.Rat, n *big.Int) *big.Rat {
	d := new(big.Rat).Sub(x, new(big.Rat).SetInt(n))
	return d.Abs(d)
}

// source yields numbers that differ from run to run in nothing.
type source struct {
	*rand.Rand
}

func newSource(seed int64) source {
	return source{rand.New(rand.NewSource(seed))}
}

// integer returns a canonical integer, with few or with many digits.
func (s source) integer() api.Int {
	n := big.NewInt(int64(s.Uint64()) >> s.Intn(64))
	if s.Intn(4) == 0 {
		n.Mul(n, tenTo(s.Intn(40)))
		n.Add(n, big.NewInt(s.Int63n(3)-1))
	}
	return whole(n)
}

// next returns a canonical fraction, that is often in the middle of two
// integers or next to it, finite, or an integer.
func (s source) next() api.Frac {
	x := new(big.Rat).SetInt(number(s.integer()))
	switch s.Intn(5) {
	case 0:
		x.Quo(x, big.NewRat(2, 1))
	case 1:
		x.Quo(x, new(big.Rat).SetInt(tenTo(s.Intn(16))))
	case 2:
		x.Quo(x, big.NewRat(2, 1))
		x.Add(x, new(big.Rat).SetFrac(big.NewInt(s.Int63n(3)-1), tenTo(20)))
	case 3:
		x.Quo(x, big.NewRat(1+s.Int63n(40), 1))
	}
	return canonical(x)
}

// disguise returns another fraction with the same value.
func (s source) disguise(f api.Frac) api.Frac {
	x := rational(f)
	factor := big.NewInt(2 + s.Int63n(20))
	if s.Intn(2) == 0 {
		factor.Neg(factor)
	}
	return frac(padded(new(big.Int).Mul(x.Num(), factor), s.Intn(12)), padded(new(big.Int).Mul(x.Denom(), factor), s.Intn(3)))
}

// padded returns an integer with the value n and a number of leading zeros.
func padded(n *big.Int, zeros int) api.Int {
	text := strings.Repeat("0", zeros) + new(big.Int).Abs(n).String()
	if n.Sign() < 0 {
		return api.Int("-" + text)
	}
	return api.Int(text)
}
