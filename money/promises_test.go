package money_test

import (
	"math/big"
	"slices"
	"strings"
	"testing"

	"tranche/api"
	"tranche/money"
)

// added returns the bag to which a function adds all elements, one after the other.
func added[T any](t *testing.T, add func([]api.Money, T) ([]api.Money, api.Errno), elements []T) []api.Money {
	t.Helper()
	var all []api.Money
	for _, element := range elements {
		var e api.Errno
		if all, e = add(all, element); e != api.OK {
			t.Fatalf("one of %v is not added: %d", elements, e)
		}
	}
	return all
}

// sum returns the sum of bags.
func sum(t *testing.T, bags ...[]api.Money) []api.Money {
	t.Helper()
	return added(t, money.Sum, bags)
}

// put returns the bag into which amounts are put one after the other.
func put(t *testing.T, amounts []api.Money) []api.Money {
	t.Helper()
	return added(t, money.Put, amounts)
}

// neg returns the opposite of a bag.
func neg(t *testing.T, b []api.Money) []api.Money {
	t.Helper()
	opposite, e := money.Neg(b)
	if e != api.OK || len(opposite) != len(b) {
		t.Fatalf("Neg(%q) = %q, %d", b, opposite, e)
	}
	return opposite
}

// smallBags returns all bags with amounts of -1, 0 and 1 in three currencies.
func smallBags() [][]api.Money {
	var all [][]api.Money
	for _, amounts := range lists([]api.Int{"-1", "", "1"}, 3) {
		var b []api.Money
		for i, a := range amounts {
			if a != "" {
				b = append(b, cash(codes(3)[i], a))
			}
		}
		if len(amounts) == 3 {
			all = append(all, b)
		}
	}
	return all
}

// forBags calls check with three bags each: all small ones, and a number of
// others, whose sums have no more than MaxCurrencies currencies.
func forBags(seed int64, check func(a, b, c []api.Money)) {
	small := smallBags()
	for _, a := range small {
		for _, b := range small {
			for _, c := range small {
				check(a, b, c)
			}
		}
	}
	s := newSource(seed)
	for range 1000 {
		some := codes(1 + s.Intn(api.MaxCurrencies))
		check(s.bag(some), s.bag(some), s.bag(some))
	}
}

// P5.2

func TestGroup(t *testing.T) {
	forBags(11, func(a, b, c []api.Money) {
		if !slices.Equal(sum(t, a, b), sum(t, b, a)) {
			t.Fatalf("the sums of %q and %q are different", a, b)
		}
		if !slices.Equal(sum(t, sum(t, a, b), c), sum(t, a, sum(t, b, c))) {
			t.Fatalf("the sums of %q, %q and %q are different", a, b, c)
		}
	})
}

func TestNeutralAndOppositeBags(t *testing.T) {
	forBags(12, func(a, _, _ []api.Money) {
		for _, none := range [][]api.Money{nil, {}} {
			expectBag(t, a, api.OK)(money.Sum(a, none))
			expectBag(t, a, api.OK)(money.Sum(none, a))
		}
		expectBag(t, nil, api.OK)(money.Sum(a, neg(t, a)))
		expectBag(t, nil, api.OK)(money.Sum(neg(t, a), a))
		expectBag(t, a, api.OK)(money.Neg(neg(t, a)))
	})
}

// TestGroupOfManyCurrencies tests that two bags have the same sum, or have too many currencies, in both orders.
func TestGroupOfManyCurrencies(t *testing.T) {
	s := newSource(13)
	over := 0
	for range 2000 {
		a, b := s.bag(codes(26)), s.bag(codes(26))
		there, e := money.Sum(a, b)
		if e == api.ErrLimit {
			over++
		}
		expectBag(t, there, e)(money.Sum(b, a))
	}
	if over == 0 || over == 2000 {
		t.Fatalf("%d sums have too many currencies", over)
	}
}

// P5.3

func TestAmountsOfSums(t *testing.T) {
	forBags(14, func(a, b, _ []api.Money) {
		all := sum(t, a, b)
		if e := money.Check(all); e != api.OK {
			t.Fatalf("the sum %q is no bag: %d", all, e)
		}
		for _, code := range append(codes(17), "", "usd") {
			want := new(big.Int).Add(number(money.Amount(a, code)), number(money.Amount(b, code)))
			if got := money.Amount(all, code); got != whole(want) {
				t.Fatalf("%q of the sum of %q and %q: %q", code, a, b, got)
			}
		}
	})
}

// TestBagsWithTheSameAmounts compares bags that were made in different ways.
func TestBagsWithTheSameAmounts(t *testing.T) {
	forBags(15, func(a, b, c []api.Money) {
		same := true
		for _, code := range codes(16) {
			same = same && money.Amount(a, code) == money.Amount(b, code)
		}
		if same != slices.Equal(a, b) {
			t.Fatalf("%q and %q", a, b)
		}
		around := sum(t, a, b, c, neg(t, b), neg(t, c))
		if !slices.Equal(around, a) || !slices.Equal(put(t, around), a) {
			t.Fatalf("%q has become %q", a, around)
		}
	})
}

// P5.4

// orders returns all orders of a list.
func orders[T any](l []T) [][]T {
	if len(l) == 0 {
		return [][]T{nil}
	}
	var all [][]T
	for i := range l {
		for _, rest := range orders(slices.Delete(slices.Clone(l), i, i+1)) {
			all = append(all, append([]T{l[i]}, rest...))
		}
	}
	return all
}

// expectPut tests that amounts lead to the sum of bags with one amount.
func expectPut(t *testing.T, want, amounts []api.Money) {
	t.Helper()
	if got := put(t, amounts); !slices.Equal(got, want) {
		t.Fatalf("%q lead to %q, want %q", amounts, got, want)
	}
	var singles [][]api.Money
	for _, m := range amounts {
		if m.Amount != "" {
			singles = append(singles, []api.Money{m})
		}
	}
	if got := sum(t, singles...); !slices.Equal(got, want) {
		t.Fatalf("%q have the sum %q, want %q", amounts, got, want)
	}
}

func TestPuttingInAnyOrder(t *testing.T) {
	for _, c := range []struct{ amounts, want string }{
		{"", ""}, {"EUR 5", "EUR 5"}, {"USD 1 EUR 2 JPY 3 CHF 4 GBP 5", "CHF 4 EUR 2 GBP 5 JPY 3 USD 1"}, {"EUR 1 EUR 2 EUR 3 EUR -6", ""}, {"EUR 1 EUR 1 EUR 1", "EUR 3"},
		{"EUR 5 USD 3 EUR -5 USD -4 JPY 7", "JPY 7 USD -1"}, {"EUR 5 EUR -5 USD 5 USD -5", ""}, {"EUR 99999999999999999999 EUR 1 USD -1", "EUR 100000000000000000000 USD -1"},
	} {
		for _, amounts := range orders(bag(c.amounts)) {
			expectPut(t, bag(c.want), amounts)
		}
	}
	for _, amounts := range orders([]api.Money{cash("EUR", ""), cash("USD", ""), cash("EUR", "5")}) {
		expectPut(t, bag("EUR 5"), amounts)
	}
}

func TestPuttingManyInAnyOrder(t *testing.T) {
	s := newSource(16)
	for range 600 {
		var amounts []api.Money
		for range s.Intn(40) {
			amounts = append(amounts, cash(codes(api.MaxCurrencies)[s.Intn(api.MaxCurrencies)], s.amount()))
		}
		want, _ := collected(amounts)
		for range 3 {
			expectPut(t, want, shuffled(s, amounts))
		}
	}
}

// P5.5

func TestTextsOfAmounts(t *testing.T) {
	s := newSource(17)
	for range 1000 {
		for _, c := range s.table() {
			m := cash(c.Code, s.amount())
			table := shuffled(s, []api.Currency{c, currency("AAA", 5), currency("ZZZ", 1)})
			text, e := money.Text(table, m)
			if e != api.OK {
				t.Fatalf("Text(%v, %q): %d", table, m, e)
			}
			if got, e := money.Parse(table, text); got != m || e != api.OK {
				t.Fatalf("the text of %q is %q, with the value %q, %d", m, text, got, e)
			}
		}
	}
}

func TestTextsOfWhatWasParsed(t *testing.T) {
	s := newSource(18)
	for range 4000 {
		c := currency("USD", s.Intn(api.MaxPlaces+1))
		table := []api.Currency{currency("EUR", 2), c}
		places := s.Intn(api.MaxPlaces + 4)
		given := new(big.Rat).SetFrac(number(s.amount()), tenTo(s.Intn(places+1)))
		m, e := money.Parse(table, given.FloatString(places)+" USD")
		if e == api.ErrInexact {
			continue
		}
		text, code := money.Text(table, m)
		number, ending := strings.CutSuffix(text, " USD")
		value, is := new(big.Rat).SetString(number)
		if e != api.OK || code != api.OK || !ending || !is || value.Cmp(given) != 0 {
			t.Fatalf("%v is parsed as %q, %d, with the text %q, %d", given, m, e, text, code)
		}
		if _, behind, point := strings.Cut(number, "."); len(behind) != c.Places || point != (c.Places > 0) {
			t.Fatalf("the text %q with %d places", text, c.Places)
		}
	}
}

// P5.6

func TestCurrenciesOfTables(t *testing.T) {
	s := newSource(19)
	for range 1500 {
		table := s.table()
		if e := money.CheckTable(table); e != api.OK {
			t.Fatalf("%v is no table: %d", table, e)
		}
		expectFound(t, table, table)
		var less []api.Currency
		for _, c := range table {
			if s.Intn(3) > 0 {
				less = append(less, c)
			}
		}
		expectFound(t, table, less)
	}
}

func TestTablesWithoutSomeCurrencies(t *testing.T) {
	table := tableOf(codes(10))
	for chosen := range 1 << len(table) {
		var less []api.Currency
		for i, c := range table {
			if chosen>>i&1 == 1 {
				less = append(less, c)
			}
		}
		expectFound(t, table, less)
	}
	for i := range usual() {
		expectFound(t, usual(), slices.Delete(usual(), i, i+1))
	}
}

// expectFound tests that less is a table in which those currencies of table are found that it has.
func expectFound(t *testing.T, table, less []api.Currency) {
	t.Helper()
	if e := money.CheckTable(less); e != api.OK {
		t.Fatalf("%v is no table: %d", less, e)
	}
	for _, c := range table {
		want := c
		if !slices.Contains(less, c) {
			want = api.Currency{}
		}
		if got, found := money.Find(less, c.Code); got != want || found != slices.Contains(less, c) {
			t.Fatalf("Find(%v, %q) = %v, %t", less, c.Code, got, found)
		}
	}
}

// R3

func TestArgumentsRemain(t *testing.T) {
	a, b, table := bag("EUR 5 JPY 1 USD -3"), bag("CHF 2 JPY -1"), usual()
	// There is room behind the bag, into which nothing may be written.
	room := append(slices.Clone(a), bag("XXX 1 YYY 2")...)
	less, _ := money.Put(room[:3], cash("JPY", "-1"))
	more, _ := money.Put(room[:3], cash("ZZZ", "7"))
	same, _ := money.Put(room[:3], cash("EUR", ""))
	all, _ := money.Sum(room[:3], b)
	alone, _ := money.Sum(a, nil)
	opposite, _ := money.Neg(a)
	money.CheckTable(table)
	money.Parse(table, "5 USD")
	if !slices.Equal(room, append(bag("EUR 5 JPY 1 USD -3"), bag("XXX 1 YYY 2")...)) || !slices.Equal(b, bag("CHF 2 JPY -1")) || !slices.Equal(table, usual()) {
		t.Fatalf("the arguments have become %q, %q and %v", room, b, table)
	}
	for _, result := range [][]api.Money{less, more, same, all, alone, opposite} {
		clear(result)
	}
	if !slices.Equal(a, bag("EUR 5 JPY 1 USD -3")) || !slices.Equal(room[:3], a) || !slices.Equal(b, bag("CHF 2 JPY -1")) {
		t.Fatal("results share memory with arguments")
	}
}

// R5

func TestResultsDependOnArgumentsOnly(t *testing.T) {
	a, b := oneEach(codes(12)), oneEach(codes(16)[4:])
	all := sum(t, a, b)
	for range 50 {
		if again := sum(t, a, b); !slices.Equal(again, all) {
			t.Fatal("results change")
		}
	}
}
