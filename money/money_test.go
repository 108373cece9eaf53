package money_test

import (
	"math"
	"slices"
	"strings"
	"testing"

	"tranche/api"
	"tranche/money"
)

// usual is a table with all kinds of numbers of places.
func usual() []api.Currency {
	return []api.Currency{currency("USD", 2), currency("JPY", 0), currency("XAU", api.MaxPlaces), currency("EUR", 2), currency("TND", 3)}
}

// strangeCodes returns strings that are no codes.
func strangeCodes() []string {
	return []string{
		"", "U", "US", "USDD", "USDUSD", "usd", "Usd", "USd", "uSD", "US ", " US", "U D", "US1", "0SD", "U-D", "US.", "US@", "US[", "@SD", "[SD", "U@D", "U[D", "US`", "USa", "zSD",
		"US\x00", "US\xff", "\xffSD", "US\n", "USD\n", "USD ", " USD", "Ü", "ÜS", "ÜSD", "Ä€", "UŚD", "ＵＳＤ", "Ａ", "€€€", strings.Repeat("USD", 30000),
	}
}

// strangeAmounts returns strings that are not canonical integers.
func strangeAmounts() []api.Int {
	return []api.Int{"0", "00", "-0", "-", "--5", "05", "-05", "+5", " 5", "5 ", "5.0", "1/2", "x", "1x", "5-", "\xff", "5\n", "٥", "0x5", "1e5", "1_000", "1,000", api.Int(strings.Repeat("0", 70000))}
}

// P5.1

func TestCheckTable(t *testing.T) {
	for _, c := range []struct {
		t    []api.Currency
		want api.Errno
	}{
		{nil, api.OK}, {[]api.Currency{}, api.OK}, {usual(), api.OK}, {[]api.Currency{currency("AAA", 0), currency("ZZZ", 12), currency("AZM", 7)}, api.OK},
		{tableOf(codes(api.MaxCurrencies)), api.OK}, {tableOf(codes(api.MaxCurrencies + 1)), api.ErrLimit}, {make([]api.Currency, api.MaxCurrencies+1), api.ErrLimit}, {make([]api.Currency, 5000), api.ErrLimit},
		{make([]api.Currency, api.MaxCurrencies), api.ErrName}, {[]api.Currency{{}}, api.ErrName}, {append(tableOf(codes(15)), currency("usd", 2)), api.ErrName},
		{append(tableOf(codes(15)), currency("CAO", 2)), api.ErrExists}, {append(tableOf(codes(16)), currency("CAA", -1)), api.ErrLimit},
		{[]api.Currency{currency("USD", 2), currency("EUR", 2), currency("USD", 2)}, api.ErrExists}, {[]api.Currency{currency("USD", 2), currency("USD", 3)}, api.ErrExists},
		// The first error of a currency counts, and the first currency with an error.
		{[]api.Currency{currency("usd", -1)}, api.ErrName}, {[]api.Currency{currency("", 13)}, api.ErrName}, {[]api.Currency{currency("usd", 2), currency("usd", 2)}, api.ErrName},
		{[]api.Currency{currency("USD", 2), currency("USD", 13)}, api.ErrRange}, {[]api.Currency{currency("USD", 2), currency("USD", 2), currency("usd", -1)}, api.ErrExists},
		{[]api.Currency{currency("USD", 13), currency("usd", 2)}, api.ErrRange}, {[]api.Currency{currency("USD", -1), currency("USD", -1)}, api.ErrRange},
	} {
		if e := money.CheckTable(c.t); e != c.want {
			t.Errorf("CheckTable(%v) = %d, want %d", c.t, e, c.want)
		}
	}
	for _, code := range strangeCodes() {
		if e := money.CheckTable([]api.Currency{currency("EUR", 2), currency(code, 2)}); e != api.ErrName {
			t.Errorf("a table with the code %.9q: %d", code, e)
		}
	}
	for _, places := range []int{-1, 13, -12, 14, 1 << 32, 1<<32 + 2, math.MinInt, math.MaxInt} {
		if e := money.CheckTable([]api.Currency{currency("EUR", 2), currency("USD", places)}); e != api.ErrRange {
			t.Errorf("a table with %d places: %d", places, e)
		}
	}
}

// TestCheckTableOfAllShortTables compares with the definition for all short tables of some currencies.
func TestCheckTableOfAllShortTables(t *testing.T) {
	some := []api.Currency{currency("USD", 2), currency("USD", 0), currency("EUR", 12), currency("EUR", 13), currency("JPY", -1), currency("jpy", 0), currency("", -1), currency("US", 2), currency("USDX", 99)}
	for _, table := range lists(some, 4) {
		if e := money.CheckTable(table); e != tableError(table) {
			t.Fatalf("CheckTable(%v) = %d, want %d", table, e, tableError(table))
		}
	}
}

func TestFind(t *testing.T) {
	// Find is specified for tables that are not valid, too.
	strange := []api.Currency{currency("usd", -1), currency("USD", 99), currency("USD", 2), currency("", 5), currency("\xff", math.MinInt), currency("", 6)}
	long := append(make([]api.Currency, 5000), currency("USD", 3))
	for _, c := range []struct {
		t     []api.Currency
		code  string
		want  api.Currency
		found bool
	}{
		{usual(), "USD", currency("USD", 2), true}, {usual(), "JPY", currency("JPY", 0), true}, {usual(), "XAU", currency("XAU", 12), true}, {usual(), "TND", currency("TND", 3), true},
		{usual(), "CHF", api.Currency{}, false}, {usual(), "usd", api.Currency{}, false}, {usual(), "", api.Currency{}, false}, {usual(), "US", api.Currency{}, false}, {usual(), "USDX", api.Currency{}, false},
		{nil, "USD", api.Currency{}, false}, {nil, "", api.Currency{}, false}, {[]api.Currency{}, "USD", api.Currency{}, false}, {[]api.Currency{{}}, "", api.Currency{}, true}, {[]api.Currency{{}}, "USD", api.Currency{}, false},
		{strange, "USD", currency("USD", 99), true}, {strange, "usd", currency("usd", -1), true}, {strange, "", currency("", 5), true}, {strange, "\xff", currency("\xff", math.MinInt), true}, {strange, "EUR", api.Currency{}, false},
		{long, "USD", currency("USD", 3), true}, {long, "EUR", api.Currency{}, false},
	} {
		if got, found := money.Find(c.t, c.code); got != c.want || found != c.found {
			t.Errorf("Find(%.9v, %q) = %v, %t", c.t, c.code, got, found)
		}
	}
}

func TestCheck(t *testing.T) {
	for _, c := range []struct {
		bag  []api.Money
		want api.Errno
	}{
		{nil, api.OK}, {bag(""), api.OK}, {bag("EUR 5"), api.OK}, {bag("EUR 5 USD -3"), api.OK}, {bag("AAA 1 AAB -1 ABA 1 BAA 1 ZZZ -99999999999999999999999"), api.OK},
		{oneEach(codes(api.MaxCurrencies)), api.OK}, {oneEach(codes(api.MaxCurrencies + 1)), api.ErrLimit}, {make([]api.Money, api.MaxCurrencies+1), api.ErrLimit}, {make([]api.Money, 5000), api.ErrLimit},
		{make([]api.Money, api.MaxCurrencies), api.ErrName}, {append(oneEach(codes(15)), cash("CAP", "")), api.ErrEmpty}, {append(oneEach(codes(15)), cash("CAA", "1")), api.ErrOrder}, {append(oneEach(codes(15)), cash("caa", "1")), api.ErrName},
		{bag("USD 5 EUR 3"), api.ErrOrder}, {bag("EUR 5 EUR 3"), api.ErrOrder}, {bag("EUR 5 EUR 5"), api.ErrOrder}, {bag("EUR 5 EUR -5"), api.ErrOrder}, {bag("EUR 1 USD 2 JPY 3"), api.ErrOrder}, {bag("EUR 1 USD 2 EUR 3"), api.ErrOrder},
		{[]api.Money{cash("EUR", "")}, api.ErrEmpty}, {[]api.Money{cash("EUR", "1"), cash("USD", "")}, api.ErrEmpty}, {bag("EUR 0"), api.ErrArgument}, {bag("EUR 1 USD -0"), api.ErrArgument},
		// The first error of an amount counts, and the first amount with an error.
		{[]api.Money{{}}, api.ErrName}, {bag("eur 05"), api.ErrName}, {bag("USD 1 EUR 05"), api.ErrArgument}, {bag("USD 1 eur 5"), api.ErrName}, {append(bag("USD 1"), cash("EUR", "")), api.ErrEmpty}, {append(bag("USD 1"), cash("USD", "")), api.ErrEmpty},
		{bag("USD 1 EUR 1 eur 1"), api.ErrOrder}, {append(bag("USD 05"), cash("USD", ""), api.Money{}), api.ErrArgument}, {[]api.Money{cash("USD", ""), cash("EUR", "05")}, api.ErrEmpty},
	} {
		if e := money.Check(c.bag); e != c.want {
			t.Errorf("Check(%.9q) = %d, want %d", c.bag, e, c.want)
		}
	}
	for _, code := range strangeCodes() {
		if e := money.Check([]api.Money{cash("AAA", "5"), cash(code, "5")}); e != api.ErrName {
			t.Errorf("a bag with the code %.9q: %d", code, e)
		}
	}
	for _, amount := range strangeAmounts() {
		if e := money.Check([]api.Money{cash("EUR", "5"), cash("USD", amount)}); e != api.ErrArgument {
			t.Errorf("a bag with the amount %.9q: %d", amount, e)
		}
	}
}

// someMoney returns amounts of which some can be in a bag.
func someMoney() []api.Money {
	return append(bag("EUR 5 EUR -5 USD 3 USD -3 JPY 99999999999999999999 JPY -1 USD 03 EUR 0 eur 5 US 1 USDX x"), cash("EUR", ""), cash("USD", ""), cash("", "1"), api.Money{})
}

func TestCheckOfAllShortBags(t *testing.T) {
	for _, l := range lists(someMoney(), 3) {
		if e := money.Check(l); e != bagError(l) {
			t.Fatalf("Check(%q) = %d, want %d", l, e, bagError(l))
		}
	}
}

func TestAmount(t *testing.T) {
	// Amount is specified for lists that are no bags, too.
	strange := append(bag("USD 3 EUR 5 USD 4 usd 6 EUR -5"), cash("", "7"), cash("JPY", ""), cash("JPY", "8"), cash("\xff", "9"), cash("", "10"))
	long := append(make([]api.Money, 5000), cash("USD", "3"))
	for _, c := range []struct {
		bag  []api.Money
		code string
		want api.Int
	}{
		{bag("EUR 5 USD -3"), "EUR", "5"}, {bag("EUR 5 USD -3"), "USD", "-3"}, {bag("EUR 5 USD -3"), "JPY", ""}, {bag("EUR 5 USD -3"), "", ""}, {bag("EUR 5 USD -3"), "eur", ""}, {bag("EUR 5 USD -3"), "EU", ""}, {bag("EUR 5"), "EURO", ""},
		{nil, "EUR", ""}, {nil, "", ""}, {bag(""), "EUR", ""}, {bag("USD 123456789012345678901234567890"), "USD", "123456789012345678901234567890"},
		{strange, "USD", "3"}, {strange, "EUR", "5"}, {strange, "usd", "6"}, {strange, "", "7"}, {strange, "JPY", ""}, {strange, "\xff", "9"}, {strange, "CHF", ""}, {long, "USD", "3"}, {long, "EUR", ""}, {long, "", ""},
	} {
		if got := money.Amount(c.bag, c.code); got != c.want {
			t.Errorf("Amount(%.9q, %q) = %q", c.bag, c.code, got)
		}
	}
}

// expectBag tests that a function returns a bag and an error.
func expectBag(t *testing.T, want []api.Money, code api.Errno) func(got []api.Money, e api.Errno) {
	return func(got []api.Money, e api.Errno) {
		t.Helper()
		if !slices.Equal(got, want) || e != code {
			t.Fatalf("%.9q, %d, want %.9q, %d", got, e, want, code)
		}
	}
}

func TestPut(t *testing.T) {
	full := oneEach(codes(api.MaxCurrencies))
	for _, c := range []struct {
		bag  []api.Money
		m    api.Money
		want []api.Money
		e    api.Errno
	}{
		{nil, cash("EUR", "5"), bag("EUR 5"), api.OK}, {nil, cash("EUR", ""), nil, api.OK}, {bag("EUR 5"), cash("EUR", "-3"), bag("EUR 2"), api.OK}, {bag("EUR 5"), cash("EUR", "-5"), nil, api.OK}, {bag("EUR 5"), cash("EUR", ""), bag("EUR 5"), api.OK},
		{bag("EUR 5 USD 3"), cash("JPY", "7"), bag("EUR 5 JPY 7 USD 3"), api.OK}, {bag("EUR 5 USD 3"), cash("AAA", "-7"), bag("AAA -7 EUR 5 USD 3"), api.OK}, {bag("EUR 5 USD 3"), cash("ZZZ", "7"), bag("EUR 5 USD 3 ZZZ 7"), api.OK},
		{bag("EUR 5 USD 3"), cash("JPY", ""), bag("EUR 5 USD 3"), api.OK}, {bag("AAA 1 EUR 5 USD 3"), cash("EUR", "-5"), bag("AAA 1 USD 3"), api.OK}, {bag("EUR 99999999999999999999"), cash("EUR", "1"), bag("EUR 100000000000000000000"), api.OK},
		// A full bag takes amounts of its currencies, and nothing of others.
		{full, cash("CAP", "-1"), full[:15], api.OK}, {full, cash("CAA", "-1"), full[1:], api.OK}, {full, cash("CAA", "1"), append(bag("CAA 2"), full[1:]...), api.OK}, {full, cash("ZZZ", ""), full, api.OK}, {full[:15], cash("CAP", "1"), full, api.OK},
		{full, cash("ZZZ", "1"), nil, api.ErrLimit}, {full, cash("AAA", "-1"), nil, api.ErrLimit}, {full, cash("CAQ", "99999999999999999999"), nil, api.ErrLimit},
		{bag("EUR 0"), cash("EUR", "5"), nil, api.ErrArgument}, {bag("USD 1 EUR 1"), cash("EUR", "5"), nil, api.ErrArgument}, {bag("EUR 1 EUR 1"), cash("JPY", "5"), nil, api.ErrArgument}, {bag("eur 1"), cash("EUR", "5"), nil, api.ErrArgument},
		{oneEach(codes(17)), cash("CAA", "-1"), nil, api.ErrArgument}, {make([]api.Money, 1), cash("CAA", "-1"), nil, api.ErrArgument}, {bag("EUR 5"), cash("EUR", "05"), nil, api.ErrArgument}, {bag("EUR 5"), cash("JPY", "0"), nil, api.ErrArgument},
		{bag("EUR 5"), cash("eur", "5"), nil, api.ErrName}, {nil, api.Money{}, nil, api.ErrName},
		// The bag is checked first, then the code, the amount, and the limit.
		{bag("EUR 0"), cash("eur", "05"), nil, api.ErrArgument}, {bag("usd 5"), cash("eur", "5"), nil, api.ErrArgument}, {bag("EUR 5"), cash("eur", "05"), nil, api.ErrName}, {full, cash("zzz", "1"), nil, api.ErrName}, {full, cash("ZZZ", "01"), nil, api.ErrArgument},
	} {
		if got, e := money.Put(c.bag, c.m); !slices.Equal(got, c.want) || e != c.e {
			t.Errorf("Put(%.9q, %q) = %.9q, %d, want %.9q, %d", c.bag, c.m, got, e, c.want, c.e)
		}
	}
	for _, code := range strangeCodes() {
		expectBag(t, nil, api.ErrName)(money.Put(bag("EUR 5"), cash(code, "5")))
	}
	for _, amount := range strangeAmounts() {
		expectBag(t, nil, api.ErrArgument)(money.Put(bag("EUR 5"), cash("USD", amount)))
	}
}

func TestSum(t *testing.T) {
	full := oneEach(codes(api.MaxCurrencies))
	more := oneEach(codes(32))
	for _, c := range []struct {
		a, b, want []api.Money
		e          api.Errno
	}{
		{bag("EUR 5 USD -3"), bag("JPY 7 USD 3"), bag("EUR 5 JPY 7"), api.OK}, {nil, nil, nil, api.OK}, {bag("EUR 5"), nil, bag("EUR 5"), api.OK}, {bag(""), bag("EUR -5"), bag("EUR -5"), api.OK}, {bag("EUR 5"), bag("EUR -5"), nil, api.OK},
		{bag("EUR 5"), bag("EUR 6"), bag("EUR 11"), api.OK}, {bag("AAA 1 CCC 1 EEE 1"), bag("BBB 2 DDD 2"), bag("AAA 1 BBB 2 CCC 1 DDD 2 EEE 1"), api.OK}, {bag("AAA 1 BBB 1"), bag("CCC 2 DDD 2"), bag("AAA 1 BBB 1 CCC 2 DDD 2"), api.OK},
		{bag("AAA 1 BBB 1 CCC 1"), bag("AAA -1 CCC -1"), bag("BBB 1"), api.OK}, {bag("AAA -99999999999999999999"), bag("AAA -1"), bag("AAA -100000000000000000000"), api.OK},
		// As many amounts as allowed, also where more are added and others cancel.
		{more[:8], more[8:16], full, api.OK}, {full, nil, full, api.OK}, {full, bag("CAA -1 ZZZ 1"), append(slices.Clone(full[1:]), cash("ZZZ", "1")), api.OK}, {full, bag("AAA 1 CAP -1"), append(bag("AAA 1"), full[:15]...), api.OK},
		{more[:8], more[8:17], nil, api.ErrLimit}, {full, more[16:17], nil, api.ErrLimit}, {more[1:17], more[:1], nil, api.ErrLimit}, {full, more[16:], nil, api.ErrLimit}, {full, bag("AAA 1 CAA -1 CAQ 1"), nil, api.ErrLimit}, {full, bag("AAA 1 CAA 1"), nil, api.ErrLimit},
		{bag("EUR 0"), nil, nil, api.ErrArgument}, {nil, bag("EUR 0"), nil, api.ErrArgument}, {bag("USD 1 EUR 1"), bag("EUR 1"), nil, api.ErrArgument}, {bag("EUR 1"), bag("EUR 1 EUR 1"), nil, api.ErrArgument}, {bag("EUR 1"), bag("eur 1"), nil, api.ErrArgument},
		{more[:17], nil, nil, api.ErrArgument}, {nil, more[:17], nil, api.ErrArgument}, {full, bag("EUR 0"), nil, api.ErrArgument}, {bag("usd 1"), more[:16], nil, api.ErrArgument}, {bag("usd 1"), bag("EUR 0"), nil, api.ErrArgument},
	} {
		if got, e := money.Sum(c.a, c.b); !slices.Equal(got, c.want) || e != c.e {
			t.Errorf("Sum(%.9q, %.9q) = %.9q, %d, want %.9q, %d", c.a, c.b, got, e, c.want, c.e)
		}
	}
}

// TestSumAndPutOfAllShortBags compares with the definitions for all pairs of short bags, valid or not.
func TestSumAndPutOfAllShortBags(t *testing.T) {
	all := lists(someMoney(), 2)
	for _, a := range all {
		for _, b := range all {
			expectBag(t, first(sumOf(a, b)), second(sumOf(a, b)))(money.Sum(a, b))
		}
		for _, m := range someMoney() {
			expectBag(t, first(putInto(a, m)), second(putInto(a, m)))(money.Put(a, m))
		}
	}
}

// first returns the first one of two results.
func first[A, B any](a A, _ B) A {
	return a
}

// second returns the second one of two results.
func second[A, B any](_ A, b B) B {
	return b
}

// TestSumAndPutAreExact compares with the definitions for bags with few, and with too many currencies.
func TestSumAndPutAreExact(t *testing.T) {
	s := newSource(1)
	for range 3000 {
		some := codes(1 + s.Intn(26))
		a, b := s.bag(some), s.bag(some)
		expectBag(t, first(sumOf(a, b)), second(sumOf(a, b)))(money.Sum(a, b))
		m := cash(some[s.Intn(len(some))], s.amount())
		expectBag(t, first(putInto(a, m)), second(putInto(a, m)))(money.Put(a, m))
	}
}

func TestNeg(t *testing.T) {
	full := oneEach(codes(api.MaxCurrencies))
	for _, c := range []struct {
		bag, want []api.Money
		e         api.Errno
	}{
		{nil, nil, api.OK}, {bag(""), nil, api.OK}, {bag("EUR 5 USD -3"), bag("EUR -5 USD 3"), api.OK}, {bag("EUR -99999999999999999999"), bag("EUR 99999999999999999999"), api.OK},
		{bag("EUR 0"), nil, api.ErrArgument}, {[]api.Money{cash("EUR", "")}, nil, api.ErrArgument}, {bag("USD 1 EUR 1"), nil, api.ErrArgument}, {bag("EUR 1 EUR 1"), nil, api.ErrArgument}, {bag("eur 1"), nil, api.ErrArgument}, {append(full, cash("ZZZ", "1")), nil, api.ErrArgument},
	} {
		if got, e := money.Neg(c.bag); !slices.Equal(got, c.want) || e != c.e {
			t.Errorf("Neg(%.9q) = %.9q, %d", c.bag, got, e)
		}
	}
	if got, e := money.Neg(full); len(got) != api.MaxCurrencies || e != api.OK || got[15] != cash("CAP", "-1") {
		t.Errorf("Neg of a full bag: %q, %d", got, e)
	}
	for _, l := range lists(someMoney(), 2) {
		got, e := money.Neg(l)
		if (e == api.OK) != (bagError(l) == api.OK) || e != api.OK && (e != api.ErrArgument || len(got) != 0) {
			t.Fatalf("Neg(%q) = %q, %d", l, got, e)
		}
	}
}

func TestText(t *testing.T) {
	for _, c := range []struct {
		t    []api.Currency
		m    api.Money
		want string
		e    api.Errno
	}{
		{usual(), cash("USD", "-1234"), "-12.34 USD", api.OK}, {usual(), cash("JPY", "5"), "5 JPY", api.OK}, {usual(), cash("USD", ""), "0.00 USD", api.OK}, {usual(), cash("JPY", ""), "0 JPY", api.OK}, {usual(), cash("USD", "-5"), "-0.05 USD", api.OK},
		{usual(), cash("USD", "50"), "0.50 USD", api.OK}, {usual(), cash("EUR", "100"), "1.00 EUR", api.OK}, {usual(), cash("TND", "1"), "0.001 TND", api.OK}, {usual(), cash("JPY", "-70"), "-70 JPY", api.OK},
		{usual(), cash("XAU", "1"), "0.000000000001 XAU", api.OK}, {usual(), cash("XAU", "-1234567890123"), "-1.234567890123 XAU", api.OK}, {usual(), cash("XAU", ""), "0.000000000000 XAU", api.OK},
		{tableOf(codes(16)), cash("CAP", "5"), "0.05 CAP", api.OK}, {tableOf(codes(16)), cash("CAM", "5"), "0.000000000005 CAM", api.OK}, {tableOf(codes(16)), cash("CAA", "5"), "5 CAA", api.OK},
		{nil, cash("USD", "5"), "", api.ErrCurrency}, {usual(), cash("CHF", "5"), "", api.ErrCurrency}, {usual(), cash("usd", "5"), "", api.ErrCurrency}, {usual(), cash("", "5"), "", api.ErrCurrency}, {usual(), api.Money{}, "", api.ErrCurrency},
		{tableOf(codes(17)), cash("CAA", "5"), "", api.ErrArgument}, {append(usual(), currency("usd", 2)), cash("USD", "5"), "", api.ErrArgument}, {append(usual(), currency("USD", 2)), cash("USD", "5"), "", api.ErrArgument}, {append(usual(), currency("CHF", 13)), cash("USD", "5"), "", api.ErrArgument},
		{usual(), cash("USD", "05"), "", api.ErrArgument}, {usual(), cash("JPY", "0"), "", api.ErrArgument},
		// The table is checked first, then the currency, and then the amount.
		{append(usual(), currency("usd", 2)), cash("CHF", "5"), "", api.ErrArgument}, {[]api.Currency{{}}, api.Money{}, "", api.ErrArgument}, {usual(), cash("CHF", "05"), "", api.ErrCurrency}, {nil, cash("usd", "x"), "", api.ErrCurrency},
	} {
		if got, e := money.Text(c.t, c.m); got != c.want || e != c.e {
			t.Errorf("Text(%v, %q) = %q, %d, want %q, %d", c.t, c.m, got, e, c.want, c.e)
		}
	}
	for _, amount := range strangeAmounts() {
		if got, e := money.Text(usual(), cash("USD", amount)); got != "" || e != api.ErrArgument {
			t.Errorf("the text of the amount %.9q: %q, %d", amount, got, e)
		}
	}
	for _, code := range strangeCodes() {
		if got, e := money.Text(usual(), cash(code, "5")); got != "" || e != api.ErrCurrency {
			t.Errorf("the text of an amount of %.9q: %q, %d", code, got, e)
		}
	}
}

func TestParse(t *testing.T) {
	for _, c := range []struct {
		s    string
		want api.Money
		e    api.Errno
	}{
		{"0.5 USD", cash("USD", "50"), api.OK}, {"0.500 USD", cash("USD", "50"), api.OK}, {"-12.34 USD", cash("USD", "-1234"), api.OK}, {"5 JPY", cash("JPY", "5"), api.OK}, {"5.000 JPY", cash("JPY", "5"), api.OK}, {"7 USD", cash("USD", "700"), api.OK},
		{"0 USD", cash("USD", ""), api.OK}, {"0.00 USD", cash("USD", ""), api.OK}, {"0.000000 JPY", cash("JPY", ""), api.OK}, {"0.000000000001 XAU", cash("XAU", "1"), api.OK}, {"1.0000000000000000 XAU", cash("XAU", "1000000000000"), api.OK}, {"-0.001 TND", cash("TND", "-1"), api.OK},
		{"0.005 USD", api.Money{}, api.ErrInexact}, {"-0.5 JPY", api.Money{}, api.ErrInexact}, {"0.0000000000001 XAU", api.Money{}, api.ErrInexact}, {"1.0005 TND", api.Money{}, api.ErrInexact},
		{"5 CHF", api.Money{}, api.ErrCurrency}, {"5 AAA", api.Money{}, api.ErrCurrency},
		{"", api.Money{}, api.ErrSyntax}, {" ", api.Money{}, api.ErrSyntax}, {"USD", api.Money{}, api.ErrSyntax}, {"5", api.Money{}, api.ErrSyntax}, {"5USD", api.Money{}, api.ErrSyntax}, {"5 US", api.Money{}, api.ErrSyntax}, {"5 USDX", api.Money{}, api.ErrSyntax}, {"5 usd", api.Money{}, api.ErrSyntax},
		{"5 USD ", api.Money{}, api.ErrSyntax}, {"5 USD\n", api.Money{}, api.ErrSyntax}, {"5\tUSD", api.Money{}, api.ErrSyntax}, {"5\u00a0USD", api.Money{}, api.ErrSyntax}, {"USD 5", api.Money{}, api.ErrSyntax}, {"5 ", api.Money{}, api.ErrSyntax}, {"5  ", api.Money{}, api.ErrSyntax},
		{" USD", api.Money{}, api.ErrSyntax}, {"  USD", api.Money{}, api.ErrSyntax}, {" 5 USD", api.Money{}, api.ErrSyntax}, {"5  USD", api.Money{}, api.ErrSyntax}, {"5 USD USD", api.Money{}, api.ErrSyntax}, {"x USD", api.Money{}, api.ErrSyntax}, {"\xff USD", api.Money{}, api.ErrSyntax}, {"5\n USD", api.Money{}, api.ErrSyntax},
		{"-0 USD", api.Money{}, api.ErrSyntax}, {"-0.00 USD", api.Money{}, api.ErrSyntax}, {"05 USD", api.Money{}, api.ErrSyntax}, {"+5 USD", api.Money{}, api.ErrSyntax}, {"5. USD", api.Money{}, api.ErrSyntax}, {".5 USD", api.Money{}, api.ErrSyntax}, {"1,5 USD", api.Money{}, api.ErrSyntax}, {"1.2.3 USD", api.Money{}, api.ErrSyntax},
		// The form of the end is checked first, then the currency, the number, and whether it is exact.
		{"x usd", api.Money{}, api.ErrSyntax}, {"x CHF", api.Money{}, api.ErrCurrency}, {" CHF", api.Money{}, api.ErrCurrency}, {"0.005 CHF", api.Money{}, api.ErrCurrency}, {"0.005. USD", api.Money{}, api.ErrSyntax}, {"00.005 USD", api.Money{}, api.ErrSyntax},
	} {
		if got, e := money.Parse(usual(), c.s); got != c.want || e != c.e {
			t.Errorf("Parse(%q) = %q, %d, want %q, %d", c.s, got, e, c.want, c.e)
		}
	}
	for _, code := range strangeCodes() {
		want := api.ErrSyntax
		if len(code) > api.MaxText {
			want = api.ErrLimit
		}
		if got, e := money.Parse(usual(), "5 "+code); got != (api.Money{}) || e != want {
			t.Errorf("Parse of 5 %.9q: %q, %d", code, got, e)
		}
	}
}

func TestParseWithoutTable(t *testing.T) {
	long := strings.Repeat("5", api.MaxText) + " USD"
	for _, table := range [][]api.Currency{append(usual(), currency("usd", 2)), append(usual(), currency("USD", 2)), append(usual(), currency("CHF", 13)), append(usual(), currency("CHF", -1)), tableOf(codes(17)), {{}}} {
		for _, s := range []string{"5 USD", "5 CHF", "x CHF", "0.005 USD", "", long} {
			if got, e := money.Parse(table, s); got != (api.Money{}) || e != api.ErrArgument {
				t.Errorf("Parse(%v, %.9q) = %q, %d", table, s, got, e)
			}
		}
	}
	for s, want := range map[string]api.Errno{"5 USD": api.ErrCurrency, "x USD": api.ErrCurrency, "5": api.ErrSyntax, "": api.ErrSyntax, long: api.ErrLimit} {
		if got, e := money.Parse(nil, s); got != (api.Money{}) || e != want {
			t.Errorf("Parse without currencies of %.9q: %q, %d", s, got, e)
		}
	}
	if got, e := money.Parse(tableOf(codes(16)), "0.05 CAP"); got != cash("CAP", "5") || e != api.OK {
		t.Errorf("Parse with MaxCurrencies currencies: %q, %d", got, e)
	}
}

func TestLongTexts(t *testing.T) {
	digits := strings.Repeat("7", api.MaxText-len(" JPY"))
	if got, e := money.Parse(usual(), digits+" JPY"); got != cash("JPY", api.Int(digits)) || e != api.OK {
		t.Errorf("a text of MaxText bytes: %.9q, %d", got, e)
	}
	if got, e := money.Text(usual(), cash("JPY", api.Int(digits))); got != digits+" JPY" || e != api.OK {
		t.Errorf("an amount with a text of MaxText bytes: %.9q, %d", got, e)
	}
	for _, s := range []string{digits + "7 JPY", digits + "7 CHF", digits + "7 jpy", digits + "x JPY", strings.Repeat(" ", 70000)} {
		if got, e := money.Parse(usual(), s); got != (api.Money{}) || e != api.ErrLimit {
			t.Errorf("a text of %d bytes: %.9q, %d", len(s), got, e)
		}
	}
	if got, e := money.Text(usual(), cash("USD", api.Int("-"+digits+"77"))); got != "-"+digits+".77 USD" || e != api.OK {
		t.Errorf("an amount with a longer text: %.9q, %d", got, e)
	}
	zeros := strings.Repeat("0", api.MaxText-len("-1. USD"))
	if got, e := money.Parse(usual(), "-1."+zeros+" USD"); got != cash("USD", "-100") || e != api.OK {
		t.Errorf("a text of MaxText bytes with zeros behind the point: %q, %d", got, e)
	}
	if got, e := money.Parse(usual(), "-1."+zeros[1:]+"1 USD"); got != (api.Money{}) || e != api.ErrInexact {
		t.Errorf("a text of MaxText bytes that is inexact: %q, %d", got, e)
	}
}

// TestTextAndParseAreExact compares with the definitions for amounts of all tables, and for texts that are nearly right.
func TestTextAndParseAreExact(t *testing.T) {
	s := newSource(2)
	for range 4000 {
		table := s.table()
		m := cash(codes(40)[s.Intn(40)], s.amount())
		if len(table) > 0 && s.Intn(4) > 0 {
			m.Currency = table[s.Intn(len(table))].Code
		}
		want, code := textOf(table, m)
		if got, e := money.Text(table, m); got != want || e != code {
			t.Fatalf("Text(%v, %q) = %q, %d, want %q, %d", table, m, got, e, want, code)
		}
		compareParse(t, table, want)
		compareParse(t, table, s.changed(want))
		compareParse(t, table, s.changed(s.changed(want)))
	}
}

// changed returns a text with one byte more, less, or another one.
func (s source) changed(text string) string {
	const bytes = "01205-. +,eUSDCAa\n\x00\xff"
	i, b := s.Intn(len(text)+1), bytes[s.Intn(len(bytes)):][:1]
	switch {
	case i == len(text) || s.Intn(3) == 0:
		return text[:i] + b + text[i:]
	case s.Intn(2) == 0:
		return text[:i] + text[i+1:]
	}
	return text[:i] + b + text[i+1:]
}

// compareParse compares Parse with its definition.
func compareParse(t *testing.T, table []api.Currency, s string) {
	t.Helper()
	want, code := parsed(table, s)
	if got, e := money.Parse(table, s); got != want || e != code {
		t.Fatalf("Parse(%v, %q) = %q, %d, want %q, %d", table, s, got, e, want, code)
	}
}
