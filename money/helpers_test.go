package money_test

import (
	"maps"
	"math/big"
	"math/rand"
	"regexp"
	"slices"
	"strings"

	"tranche/api"
)

var (
	codeText      = regexp.MustCompile(`^[A-Z][A-Z][A-Z]$`)
	canonicalText = regexp.MustCompile(`^(-?[1-9][0-9]*)?$`)
	decimalText   = regexp.MustCompile(`^(0|[1-9][0-9]*|-(0|[1-9][0-9]*))(\.[0-9]+)?$`)
	amountText    = regexp.MustCompile(`(?s)^(.*) ([A-Z][A-Z][A-Z])$`)
)

// cash returns an amount, as it is written here.
func cash(code string, amount api.Int) api.Money {
	return api.Money{Currency: code, Amount: amount}
}

// bag returns the amounts that a text lists, each as a code and a number.
func bag(text string) []api.Money {
	all := []api.Money{}
	words := strings.Fields(text)
	for i := 0; i < len(words); i += 2 {
		all = append(all, cash(words[i], api.Int(words[i+1])))
	}
	return all
}

// currency returns a currency, as it is written here.
func currency(code string, places int) api.Currency {
	return api.Currency{Code: code, Places: places}
}

// codes returns n codes in ascending order.
func codes(n int) []string {
	var all []string
	for i := range n {
		all = append(all, "C"+string(rune('A'+i/26))+string(rune('A'+i%26)))
	}
	return all
}

// oneEach returns the amount 1 in each of the currencies with these codes.
func oneEach(codes []string) []api.Money {
	var all []api.Money
	for _, code := range codes {
		all = append(all, cash(code, "1"))
	}
	return all
}

// tableOf returns the table with these codes, in which all numbers of places occur.
func tableOf(codes []string) []api.Currency {
	var all []api.Currency
	for i, code := range codes {
		all = append(all, currency(code, i%(api.MaxPlaces+1)))
	}
	return all
}

// lists returns all lists of up to most of the elements.
func lists[T any](elements []T, most int) [][]T {
	all, last := [][]T{nil}, [][]T{nil}
	for range most {
		var longer [][]T
		for _, l := range last {
			for _, element := range elements {
				longer = append(longer, append(slices.Clone(l), element))
			}
		}
		all, last = append(all, longer...), longer
	}
	return all
}

// number returns the value of a canonical integer.
func number(a api.Int) *big.Int {
	n := new(big.Int)
	if a != "" {
		n.SetString(string(a), 10)
	}
	return n
}

// whole returns the canonical integer with the value n.
func whole(n *big.Int) api.Int {
	if n.Sign() == 0 {
		return ""
	}
	return api.Int(n.String())
}

// tenTo returns 10 to the power n.
func tenTo(n int) *big.Int {
	return new(big.Int).Exp(big.NewInt(10), big.NewInt(int64(n)), nil)
}

// The following functions say what the chapter defines: the errors of tables,
// amounts and bags, and the results of the functions with them.

func tableError(t []api.Currency) api.Errno {
	if len(t) > 16 {
		return api.ErrLimit
	}
	seen := map[string]bool{}
	for _, c := range t {
		switch {
		case !codeText.MatchString(c.Code):
			return api.ErrName
		case c.Places < 0 || c.Places > 12:
			return api.ErrRange
		case seen[c.Code]:
			return api.ErrExists
		}
		seen[c.Code] = true
	}
	return api.OK
}

func moneyError(m api.Money) api.Errno {
	switch {
	case !codeText.MatchString(m.Currency):
		return api.ErrName
	case !canonicalText.MatchString(string(m.Amount)):
		return api.ErrArgument
	}
	return api.OK
}

func bagError(l []api.Money) api.Errno {
	if len(l) > 16 {
		return api.ErrLimit
	}
	for i, m := range l {
		switch e := moneyError(m); {
		case e != api.OK:
			return e
		case m.Amount == "":
			return api.ErrEmpty
		case i > 0 && strings.Compare(l[i-1].Currency, m.Currency) >= 0:
			return api.ErrOrder
		}
	}
	return api.OK
}

// collected returns the bag with all amounts of the lists, or ErrLimit.
func collected(lists ...[]api.Money) ([]api.Money, api.Errno) {
	sums := map[string]*big.Int{}
	for _, m := range slices.Concat(lists...) {
		if sums[m.Currency] == nil {
			sums[m.Currency] = new(big.Int)
		}
		sums[m.Currency].Add(sums[m.Currency], number(m.Amount))
	}
	var all []api.Money
	for _, code := range slices.Sorted(maps.Keys(sums)) {
		if sums[code].Sign() != 0 {
			all = append(all, cash(code, whole(sums[code])))
		}
	}
	if len(all) > 16 {
		return nil, api.ErrLimit
	}
	return all, api.OK
}

func sumOf(a, b []api.Money) ([]api.Money, api.Errno) {
	if bagError(a) != api.OK || bagError(b) != api.OK {
		return nil, api.ErrArgument
	}
	return collected(a, b)
}

func putInto(l []api.Money, m api.Money) ([]api.Money, api.Errno) {
	if bagError(l) != api.OK {
		return nil, api.ErrArgument
	}
	if e := moneyError(m); e != api.OK {
		return nil, e
	}
	return collected(l, []api.Money{m})
}

func textOf(t []api.Currency, m api.Money) (string, api.Errno) {
	if tableError(t) != api.OK {
		return "", api.ErrArgument
	}
	for _, c := range t {
		if c.Code != m.Currency {
			continue
		}
		if !canonicalText.MatchString(string(m.Amount)) {
			return "", api.ErrArgument
		}
		return new(big.Rat).SetFrac(number(m.Amount), tenTo(c.Places)).FloatString(c.Places) + " " + c.Code, api.OK
	}
	return "", api.ErrCurrency
}

func parsed(t []api.Currency, s string) (api.Money, api.Errno) {
	match := amountText.FindStringSubmatch(s)
	switch {
	case tableError(t) != api.OK:
		return api.Money{}, api.ErrArgument
	case len(s) > 65536:
		return api.Money{}, api.ErrLimit
	case match == nil:
		return api.Money{}, api.ErrSyntax
	}
	for _, c := range t {
		if c.Code != match[2] {
			continue
		}
		if !decimalText.MatchString(match[1]) || match[1][0] == '-' && !strings.ContainsAny(match[1], "123456789") {
			return api.Money{}, api.ErrSyntax
		}
		units, _ := new(big.Rat).SetString(match[1])
		if units.Mul(units, new(big.Rat).SetInt(tenTo(c.Places))); !units.IsInt() {
			return api.Money{}, api.ErrInexact
		}
		return cash(c.Code, whole(units.Num())), api.OK
	}
	return api.Money{}, api.ErrCurrency
}

// source yields values that differ from run to run in nothing.
type source struct {
	*rand.Rand
}

func newSource(seed int64) source {
	return source{rand.New(rand.NewSource(seed))}
}

// amount returns a canonical integer, often small or 0, sometimes with many digits.
func (s source) amount() api.Int {
	if s.Intn(2) == 0 {
		return whole(big.NewInt(s.Int63n(7) - 3))
	}
	n := big.NewInt(int64(s.Uint64()) >> s.Intn(64))
	if s.Intn(4) == 0 {
		n.Mul(n, tenTo(s.Intn(40)))
	}
	return whole(n)
}

// table returns a table with up to MaxCurrencies currencies, in any order.
func (s source) table() []api.Currency {
	var all []api.Currency
	for _, i := range s.Perm(40)[:s.Intn(api.MaxCurrencies+1)] {
		all = append(all, currency(codes(40)[i], s.Intn(api.MaxPlaces+1)))
	}
	return all
}

// bag returns a bag with some of the currencies with these codes.
func (s source) bag(codes []string) []api.Money {
	var all []api.Money
	for _, code := range codes {
		if a := s.amount(); a != "" && s.Intn(3) > 0 && len(all) < api.MaxCurrencies {
			all = append(all, cash(code, a))
		}
	}
	return all
}

// shuffled returns the elements of a list in any order.
func shuffled[T any](s source, l []T) []T {
	all := slices.Clone(l)
	s.Shuffle(len(all), func(i, j int) { all[i], all[j] = all[j], all[i] })
	return all
}
