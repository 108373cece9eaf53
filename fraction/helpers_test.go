package fraction_test

import (
	"math/big"
	"math/rand"
	"regexp"
	"strings"

	"tranche/api"
)

var integerText = regexp.MustCompile(`^(-?)([0-9]*)$`)

// number returns the value of an integer, as chapter 1 defines it.
func number(a api.Int) *big.Int {
	match := integerText.FindStringSubmatch(string(a))
	if match == nil {
		return new(big.Int)
	}
	n, _ := new(big.Int).SetString(match[1]+"0"+match[2], 10)
	return n
}

// rational returns the value of a fraction, as the chapter defines it.
func rational(f api.Frac) *big.Rat {
	den := number(f.Den)
	if den.Sign() == 0 {
		den.SetInt64(1)
	}
	return new(big.Rat).SetFrac(number(f.Num), den)
}

// whole returns the canonical integer with the value n.
func whole(n *big.Int) api.Int {
	if n.Sign() == 0 {
		return ""
	}
	return api.Int(n.String())
}

// canonical returns the canonical fraction with the value r.
func canonical(r *big.Rat) api.Frac {
	f := api.Frac{Num: whole(r.Num())}
	if !r.IsInt() {
		f.Den = whole(r.Denom())
	}
	return f
}

// frac returns a fraction, as it is written here.
func frac(num, den api.Int) api.Frac {
	return api.Frac{Num: num, Den: den}
}

// zeros returns integers with the value 0.
func zeros() []api.Int {
	return []api.Int{
		"", "0", "-0", "-", "000", "-000", "x", "1x", "x1", "-1x", "+1", "--1", "1-", " 1", "1 ", "1\n", "1/2", "1.5", "1e3", "0x1", "\xff",
		"1\x00", "\u0661", "\u22121", api.Int(strings.Repeat("0", 50)), api.Int(strings.Repeat("9", 50) + "x"),
	}
}

// unusual returns fractions that are not canonical.
func unusual() []api.Frac {
	all := []api.Frac{
		frac("2", "4"), frac("6", "4"), frac("6", "-4"), frac("-6", "4"), frac("-6", "-4"), frac("1", "-2"), frac("-1", "-2"), frac("100", "50"),
		frac("3", "1"), frac("3", "-1"), frac("-3", "-1"), frac("3", "01"), frac("3", "-01"), frac("1", "1"), frac("2", "2"), frac("-2", "-2"), frac("-2", "2"),
		frac("007", "2"), frac("7", "02"), frac("-007", "-02"), frac("007", ""), frac("-007", ""), frac("7", "002x"), frac("12", "18"),
		frac("", "1"), frac("", "-1"), frac("", "3"), frac("", "-3"), frac("0", "3"), frac("-0", "3"), frac("x", "3"), frac("1x", "3"),
		frac("100000000000000000000", "100000000000000000000"), frac("1000000000", "2000000000000000000"),
		frac(api.Int(strings.Repeat("3", 60)), api.Int("-"+strings.Repeat("9", 60))),
	}
	for _, zero := range zeros() {
		if zero != "" {
			all = append(all, frac(zero, ""), frac("", zero), frac("5", zero), frac("-12", zero), frac(zero, zero), frac(zero, "7"), frac(zero, "-7"))
		}
	}
	return all
}

// edges returns canonical fractions: integers, fractions near to each other, and long ones.
func edges() []api.Frac {
	nums := []api.Int{
		"", "1", "-1", "2", "-2", "3", "-6", "7", "-7", "12", "35", "999999999", "-1000000000", "1000000001", "9223372036854775807",
		"-9223372036854775808", "18446744073709551616", "-999999999999999999999999999999", "1000000000000000000000000000000",
	}
	dens := []api.Int{"1", "2", "3", "4", "12", "35", "999999999", "1000000000", "9223372036854775807", "999999999999999999999999999999", "1000000000000000000000000000000"}
	seen := map[api.Frac]bool{}
	var all []api.Frac
	for _, num := range nums {
		for _, den := range dens {
			f := canonical(rational(frac(num, den)))
			if !seen[f] {
				seen[f] = true
				all = append(all, f)
			}
		}
	}
	return all
}

// source yields fractions that differ from run to run in nothing.
type source struct {
	*rand.Rand
}

func newSource(seed int64) source {
	return source{rand.New(rand.NewSource(seed))}
}

// positive returns a canonical integer that is greater than 0, and often has small divisors, or only few digits.
func (s source) positive() api.Int {
	n := big.NewInt(1 + s.Int63n(12))
	for range s.Intn(3) {
		n.Mul(n, big.NewInt(1+s.Int63()>>s.Intn(63)))
	}
	return whole(n)
}

// next returns a canonical fraction.
func (s source) next() api.Frac {
	num, den := s.positive(), s.positive()
	switch s.Intn(10) {
	case 0:
		num = ""
	case 1, 2, 3, 4:
		num = "-" + num
	}
	if s.Intn(4) == 0 {
		den = ""
	}
	return canonical(rational(frac(num, den)))
}

// nonzero returns a canonical fraction that is not 0.
func (s source) nonzero() api.Frac {
	for {
		if f := s.next(); f.Num != "" {
			return f
		}
	}
}

// disguise returns another fraction with the same value.
func (s source) disguise(f api.Frac) api.Frac {
	r := rational(f)
	factor := number(s.positive())
	if s.Intn(2) == 0 {
		factor.Neg(factor)
	}
	num, den := new(big.Int).Mul(r.Num(), factor), new(big.Int).Mul(r.Denom(), factor)
	return frac(padded(num, s.Intn(12)), padded(den, s.Intn(3)))
}

// padded returns an integer with the value n and a number of leading zeros.
func padded(n *big.Int, zeros int) api.Int {
	text := strings.Repeat("0", zeros) + new(big.Int).Abs(n).String()
	if n.Sign() < 0 {
		return api.Int("-" + text)
	}
	return api.Int(text)
}
