package integer_test

import (
	"math/big"
	"math/rand"
	"slices"
	"strings"

	"tranche/api"
)

// number returns the value of a, as the chapter defines it.
func number(a api.Int) *big.Int {
	digits := strings.TrimPrefix(string(a), "-")
	n := new(big.Int)
	for _, c := range []byte(digits) {
		if c < '0' || c > '9' {
			return new(big.Int)
		}
		n.Mul(n, big.NewInt(10))
		n.Add(n, big.NewInt(int64(c-'0')))
	}
	if digits != string(a) {
		n.Neg(n)
	}
	return n
}

// canonical returns the canonical integer with the value n.
func canonical(n *big.Int) api.Int {
	if n.Sign() == 0 {
		return ""
	}
	return api.Int(n.String())
}

// invalid returns strings that are neither digits nor a minus sign and digits.
func invalid() []api.Int {
	return []api.Int{
		"x", "1x", "x1", "1x2", "-1x", "--1", "-1-", "1-", "1-2", "+1", "-+1", "+", " 1", "1 ", " ", "1\n", "\x001", "1\x00",
		"1.0", ".", "1,000", "1_000", "1e3", "0x10", "0b1", "/", ":", "1/2", "1:", "\xff", "1\xff\xfe", "\u0661\u0662", "\uff11",
		"\u22121", api.Int(strings.Repeat("9", 100) + "x"), api.Int("-" + strings.Repeat("7", 50) + "-"),
	}
}

// unusual returns integers with the values of other, canonical ones.
func unusual() map[api.Int]api.Int {
	return map[api.Int]api.Int{
		"0": "", "00": "", "-": "", "-0": "", "-000": "", "007": "7", "-007": "-7", "0000000000": "", "-0000000000": "",
		"0999999999": "999999999", "0000000001000000000": "1000000000", "-01000000000": "-1000000000", "010": "10", "-0100": "-100",
		api.Int(strings.Repeat("0", 100)):        "",
		api.Int(strings.Repeat("0", 100) + "1"):  "1",
		api.Int("-" + strings.Repeat("0", 50)):   "",
		api.Int("-0" + strings.Repeat("90", 30)): api.Int("-" + strings.Repeat("90", 30)),
	}
}

// edges returns canonical integers near the powers of 10 and 2 at which carries, borrows and overflows happen.
func edges() []api.Int {
	seen := map[api.Int]bool{}
	note := func(n *big.Int) {
		for d := int64(-1); d <= 1; d++ {
			m := new(big.Int).Add(n, big.NewInt(d))
			seen[canonical(m)] = true
			seen[canonical(m.Neg(m))] = true
		}
	}
	for _, k := range []int64{0, 1, 8, 9, 10, 17, 18, 19, 27, 36, 40} {
		power := new(big.Int).Exp(big.NewInt(10), big.NewInt(k), nil)
		note(power)
		note(new(big.Int).Mul(power, big.NewInt(5)))
	}
	for _, k := range []uint{1, 31, 32, 62, 63, 64, 128} {
		note(new(big.Int).Lsh(big.NewInt(1), k))
	}
	all := make([]api.Int, 0, len(seen))
	for a := range seen {
		all = append(all, a)
	}
	slices.Sort(all)
	return all
}

// source yields integers that differ from run to run in nothing.
type source struct {
	*rand.Rand
}

func newSource(seed int64) source {
	return source{rand.New(rand.NewSource(seed))}
}

// next returns a canonical integer that is made of blocks of digits, most of
// which are extreme: those lead to long carries, and to hard quotients.
func (s source) next(blocks int) api.Int {
	extremes := []string{"000000000", "999999999", "500000000", "499999999", "000000001", "999999998", "333333333"}
	text := extremes[s.Intn(len(extremes))][:s.Intn(10)]
	for range s.Intn(blocks + 1) {
		if s.Intn(3) > 0 {
			text += extremes[s.Intn(len(extremes))]
			continue
		}
		for range 9 {
			text += string(rune('0' + s.Intn(10)))
		}
	}
	if s.Intn(2) == 0 {
		text = "-" + text
	}
	return canonical(number(api.Int(text)))
}

// positive returns an integer that is greater than 0.
func (s source) positive(blocks int) api.Int {
	for {
		if a := api.Int(strings.TrimPrefix(string(s.next(blocks)), "-")); a != "" {
			return a
		}
	}
}
