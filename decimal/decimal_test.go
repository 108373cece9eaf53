package decimal_test

import (
	"math"
	"math/big"
	"slices"
	"strings"
	"testing"

	"tranche/api"
	"tranche/decimal"
)

// P3.1

func TestRound(t *testing.T) {
	for _, c := range []struct {
		f    api.Frac
		want [6]api.Int // HalfEven, HalfUp, Down, Up, Floor, Ceiling
	}{
		{frac("5", "2"), [6]api.Int{"2", "3", "2", "3", "2", "3"}}, {frac("-5", "2"), [6]api.Int{"-2", "-3", "-2", "-3", "-3", "-2"}},
		{frac("7", "2"), [6]api.Int{"4", "4", "3", "4", "3", "4"}}, {frac("-7", "2"), [6]api.Int{"-4", "-4", "-3", "-4", "-4", "-3"}},
		{frac("1", "2"), [6]api.Int{"", "1", "", "1", "", "1"}}, {frac("-1", "2"), [6]api.Int{"", "-1", "", "-1", "-1", ""}},
		{frac("3", "2"), [6]api.Int{"2", "2", "1", "2", "1", "2"}}, {frac("-3", "2"), [6]api.Int{"-2", "-2", "-1", "-2", "-2", "-1"}},
		{frac("1", "3"), [6]api.Int{"", "", "", "1", "", "1"}}, {frac("-1", "3"), [6]api.Int{"", "", "", "-1", "-1", ""}},
		{frac("2", "3"), [6]api.Int{"1", "1", "", "1", "", "1"}}, {frac("-2", "3"), [6]api.Int{"-1", "-1", "", "-1", "-1", ""}},
		{frac("499999999999999999999", "1000000000000000000000"), [6]api.Int{"", "", "", "1", "", "1"}},
		{frac("500000000000000000001", "1000000000000000000000"), [6]api.Int{"1", "1", "", "1", "", "1"}},
		{frac("-500000000000000000001", "1000000000000000000000"), [6]api.Int{"-1", "-1", "", "-1", "-1", ""}},
		{frac("199999999999999999999", "2"), [6]api.Int{"100000000000000000000", "100000000000000000000", "99999999999999999999", "100000000000000000000", "99999999999999999999", "100000000000000000000"}},
		{frac("200000000000000000001", "2"), [6]api.Int{"100000000000000000000", "100000000000000000001", "100000000000000000000", "100000000000000000001", "100000000000000000000", "100000000000000000001"}},
	} {
		for i, mode := range modes() {
			if got, e := decimal.Round(c.f, mode); got != c.want[i] || e != api.OK {
				t.Errorf("Round(%q, %d) = %q, %d", c.f, mode, got, e)
			}
		}
	}
}

// TestRoundOfOtherForms passes fractions that are not canonical.
func TestRoundOfOtherForms(t *testing.T) {
	for _, c := range []struct {
		f    api.Frac
		mode int
		want api.Int
	}{
		{frac("10", "4"), api.HalfEven, "2"}, {frac("10", "-4"), api.HalfUp, "-3"}, {frac("-10", "-4"), api.Ceiling, "3"}, {frac("5", "-2"), api.Floor, "-3"},
		{frac("5", "-2"), api.Down, "-2"}, {frac("007", "02"), api.HalfEven, "4"}, {frac("-007", "-002"), api.Down, "3"}, {frac("7", ""), api.Up, "7"},
		{frac("007", "0"), api.Up, "7"}, {frac("-007", "x"), api.Ceiling, "-7"}, {frac("7", "-0"), api.Floor, "7"}, {frac("x", "2"), api.Up, ""}, {frac("1x", "2"), api.Ceiling, ""},
		{frac("", "7"), api.Up, ""}, {frac("-0", "-7"), api.Floor, ""}, {frac("", ""), api.HalfUp, ""}, {frac("\xff", "\x00"), api.Ceiling, ""}, {frac("1/2", "1"), api.Up, ""},
		{frac("9", "-3"), api.Up, "-3"}, {frac("-", "2"), api.Up, ""}, {frac("+5", "2"), api.Up, ""}, {frac("5", "+2"), api.Up, "5"}, {frac("2.5", ""), api.Up, ""},
	} {
		if got, e := decimal.Round(c.f, c.mode); got != c.want || e != api.OK {
			t.Errorf("Round(%q, %d) = %q, %d", c.f, c.mode, got, e)
		}
	}
}

func TestRoundAndScaleAreExact(t *testing.T) {
	s := newSource(1)
	for range 4000 {
		f := s.next()
		places := s.Intn(api.MaxPlaces + 1)
		for _, mode := range modes() {
			compareScale(t, f, places, mode)
			compareScale(t, s.disguise(f), places, mode)
		}
	}
}

// compareScale compares Round, Scale and Format with the definitions.
func compareScale(t *testing.T, f api.Frac, places, mode int) {
	t.Helper()
	x := rational(f)
	if got, e := decimal.Round(f, mode); got != whole(rounded(x, mode)) || e != api.OK {
		t.Fatalf("Round(%q, %d) = %q, %d", f, mode, got, e)
	}
	units := rounded(times(x, tenTo(places)), mode)
	if got, e := decimal.Scale(f, places, mode); got != whole(units) || e != api.OK {
		t.Fatalf("Scale(%q, %d, %d) = %q, %d", f, places, mode, got, e)
	}
	want := new(big.Rat).SetFrac(units, tenTo(places)).FloatString(places)
	if got, e := decimal.Format(f, places, mode); got != want || e != api.OK {
		t.Fatalf("Format(%q, %d, %d) = %q, %d, want %q", f, places, mode, got, e, want)
	}
}

func TestScaleAndFormat(t *testing.T) {
	for _, c := range []struct {
		f            api.Frac
		places, mode int
		units        api.Int
		text         string
	}{
		{frac("1", "3"), 2, api.HalfEven, "33", "0.33"}, {frac("-1", "3"), 2, api.Floor, "-34", "-0.34"}, {frac("2", "3"), 0, api.HalfUp, "1", "1"},
		{frac("1", "8"), 2, api.HalfEven, "12", "0.12"}, {frac("1", "8"), 2, api.HalfUp, "13", "0.13"}, {frac("3", "8"), 2, api.HalfEven, "38", "0.38"},
		{frac("-1", "1000"), 2, api.HalfEven, "", "0.00"}, {frac("-1", "1000"), 2, api.Up, "-1", "-0.01"}, {frac("-1", "1000"), 0, api.Ceiling, "", "0"},
		{frac("12", ""), 3, api.Down, "12000", "12.000"}, {frac("-12", ""), 12, api.Up, "-12000000000000", "-12.000000000000"}, {frac("", ""), 12, api.Up, "", "0.000000000000"},
		{frac("1", "3000000000000"), 12, api.Up, "1", "0.000000000001"}, {frac("199", "200"), 2, api.HalfEven, "100", "1.00"}, {frac("-199", "-200"), 2, api.Down, "99", "0.99"},
		{frac("x", "7"), 2, api.Up, "", "0.00"}, {frac("010", "x"), 1, api.Up, "100", "10.0"},
	} {
		if got, e := decimal.Scale(c.f, c.places, c.mode); got != c.units || e != api.OK {
			t.Errorf("Scale(%q, %d, %d) = %q, %d", c.f, c.places, c.mode, got, e)
		}
		if got, e := decimal.Format(c.f, c.places, c.mode); got != c.text || e != api.OK {
			t.Errorf("Format(%q, %d, %d) = %q, %d", c.f, c.places, c.mode, got, e)
		}
	}
}

func TestModesThatDoNotExist(t *testing.T) {
	for _, mode := range []int{0, 7, 8, -1, -6, math.MaxInt, math.MinInt, 1 << 32, 1<<32 + 1} {
		for _, f := range []api.Frac{frac("", ""), frac("3", ""), frac("5", "2"), frac("-1", "3"), frac("x", "0")} {
			if got, e := decimal.Round(f, mode); got != "" || e != api.ErrKind {
				t.Errorf("Round(%q, %d) = %q, %d", f, mode, got, e)
			}
			for _, places := range []int{0, 2, 12} {
				expectScaleError(t, f, places, mode, api.ErrKind)
			}
			// The places are checked first.
			for _, places := range []int{-1, 13} {
				expectScaleError(t, f, places, mode, api.ErrRange)
			}
		}
	}
}

func TestPlacesOutOfRange(t *testing.T) {
	for _, places := range []int{-1, 13, -12, 14, 400, 1 << 32, math.MaxInt, math.MinInt} {
		for _, f := range []api.Frac{frac("", ""), frac("5", "2"), frac("x", "-7")} {
			for _, mode := range modes() {
				expectScaleError(t, f, places, mode, api.ErrRange)
			}
		}
		for _, units := range []api.Int{"", "5", "-12345", "x"} {
			if got, e := decimal.Text(units, places); got != "" || e != api.ErrRange {
				t.Errorf("Text(%q, %d) = %q, %d", units, places, got, e)
			}
		}
		// The places are checked before the text.
		for _, s := range []string{"0", "1.55", "x", "", strings.Repeat("1", api.MaxText+1)} {
			if got, e := decimal.Parse(s, places); got != "" || e != api.ErrRange {
				t.Errorf("Parse of %d bytes with %d places: %q, %d", len(s), places, got, e)
			}
		}
	}
}

// expectScaleError tests that Scale and Format return an error, and nothing else.
func expectScaleError(t *testing.T, f api.Frac, places, mode int, want api.Errno) {
	t.Helper()
	if got, e := decimal.Scale(f, places, mode); got != "" || e != want {
		t.Errorf("Scale(%q, %d, %d) = %q, %d", f, places, mode, got, e)
	}
	if got, e := decimal.Format(f, places, mode); got != "" || e != want {
		t.Errorf("Format(%q, %d, %d) = %q, %d", f, places, mode, got, e)
	}
}

func TestLongNumbers(t *testing.T) {
	long := api.Int(strings.Repeat("7", 5000))
	if got, e := decimal.Round(frac(long+"5", "10"), api.HalfEven); got != long[:4999]+"8" || e != api.OK {
		t.Error("a long number is not rounded to the even one")
	}
	if got, e := decimal.Text("-"+long, 12); got != "-"+string(long[:4988]+"."+long[:12]) || e != api.OK {
		t.Error("the text of a long number is wrong")
	}
	if got, e := decimal.Parse("-"+string(long)+".5", 1); got != "-"+long+"5" || e != api.OK {
		t.Error("a long text is not parsed")
	}
	power := frac("-3", "1"+api.Int(strings.Repeat("0", 3000)))
	if places, is := decimal.Finite(power); places != 3000 || !is {
		t.Errorf("a number with 3000 places: %d, %t", places, is)
	}
	if got, e := decimal.Fraction("-0." + strings.Repeat("0", 2999) + "3"); got != power || e != api.OK {
		t.Error("a long text has another value")
	}
}

// P3.2

func TestDistance(t *testing.T) {
	s := newSource(2)
	half, one := big.NewRat(1, 2), big.NewRat(1, 1)
	for range 3000 {
		f := s.next()
		for _, mode := range modes() {
			got, e := decimal.Round(f, mode)
			d := distance(rational(f), number(got))
			nearest := mode == api.HalfEven || mode == api.HalfUp
			if e != api.OK || d.Cmp(one) >= 0 || nearest && d.Cmp(half) > 0 {
				t.Fatalf("Round(%q, %d) = %q, %d", f, mode, got, e)
			}
		}
	}
}

func TestIntegersRemain(t *testing.T) {
	s := newSource(3)
	all := []api.Int{"", "1", "-1", "2", "-2", "9", "-10", "1000000000000000000000"}
	for range 500 {
		all = append(all, s.integer())
	}
	for _, a := range all {
		for _, f := range []api.Frac{frac(a, ""), s.disguise(frac(a, ""))} {
			for _, mode := range modes() {
				if got, e := decimal.Round(f, mode); got != a || e != api.OK {
					t.Fatalf("Round(%q, %d) = %q, %d", f, mode, got, e)
				}
			}
		}
	}
}

// P3.3

func TestModes(t *testing.T) {
	s := newSource(4)
	opposite := map[int]int{api.HalfEven: api.HalfEven, api.HalfUp: api.HalfUp, api.Down: api.Down, api.Up: api.Up, api.Floor: api.Ceiling, api.Ceiling: api.Floor}
	for range 3000 {
		f := s.next()
		x := rational(f)
		floor, ceiling := round(t, x, api.Floor), round(t, x, api.Ceiling)
		if new(big.Rat).SetInt(floor).Cmp(x) > 0 || new(big.Rat).SetInt(ceiling).Cmp(x) < 0 {
			t.Fatalf("%v and %v do not enclose %q", floor, ceiling, f)
		}
		down, up := round(t, x, api.Down), round(t, x, api.Up)
		if down.CmpAbs(up) > 0 || !(same(down, floor) && same(up, ceiling) || same(down, ceiling) && same(up, floor)) {
			t.Fatalf("%q is rounded down to %v, and up to %v", f, down, up)
		}
		for _, mode := range modes() {
			got := round(t, x, mode)
			if !same(got, floor) && !same(got, ceiling) {
				t.Fatalf("Round(%q, %d) = %v is neither %v nor %v", f, mode, got, floor, ceiling)
			}
			if back := round(t, new(big.Rat).Neg(x), opposite[mode]); !same(got, back.Neg(back)) {
				t.Fatalf("Round(%q, %d) = %v, and the opposite is rounded otherwise", f, mode, got)
			}
		}
	}
}

// round returns x, rounded by the package.
func round(t *testing.T, x *big.Rat, mode int) *big.Int {
	t.Helper()
	got, e := decimal.Round(canonical(x), mode)
	if e != api.OK {
		t.Fatalf("Round(%v, %d): %d", x, mode, e)
	}
	return number(got)
}

// same returns whether two integers are equal.
func same(a, b *big.Int) bool {
	return a.Cmp(b) == 0
}

// P3.4

func TestOrderIsKept(t *testing.T) {
	s := newSource(5)
	var all []*big.Rat
	for range 1000 {
		all = append(all, rational(s.next()))
	}
	for n := int64(-40); n <= 40; n++ {
		all = append(all, big.NewRat(n, 8), big.NewRat(n, 3))
	}
	slices.SortFunc(all, (*big.Rat).Cmp)
	for _, mode := range modes() {
		for i := range len(all) - 1 {
			if round(t, all[i], mode).Cmp(round(t, all[i+1], mode)) > 0 {
				t.Fatalf("mode %d changes the order of %v and %v", mode, all[i], all[i+1])
			}
		}
	}
}

// TestAddingEvenIntegers adds an even integer before and after rounding. Where
// this leads to the other side of 0, "away from 0" and "towards 0" are other
// directions, so that the modes that mean these are tested on one side.
func TestAddingEvenIntegers(t *testing.T) {
	s := newSource(6)
	for range 3000 {
		x := rational(s.next())
		even := number(s.integer())
		even.Add(even, even)
		sum := new(big.Rat).Add(x, new(big.Rat).SetInt(even))
		for _, mode := range modes() {
			directed := mode == api.HalfUp || mode == api.Down || mode == api.Up
			if directed && x.Sign()*sum.Sign() < 0 {
				continue
			}
			want := new(big.Int).Add(round(t, x, mode), even)
			if got := round(t, sum, mode); !same(got, want) {
				t.Fatalf("mode %d: %v is rounded to %v, and %v to %v", mode, x, round(t, x, mode), sum, got)
			}
		}
	}
}

// P3.5

func TestText(t *testing.T) {
	for _, c := range []struct {
		units  api.Int
		places int
		want   string
	}{
		{"-5", 2, "-0.05"}, {"5", 2, "0.05"}, {"5", 1, "0.5"}, {"5", 0, "5"}, {"-5", 0, "-5"}, {"", 0, "0"}, {"", 1, "0.0"}, {"", 12, "0.000000000000"},
		{"12", 2, "0.12"}, {"123", 2, "1.23"}, {"-123", 2, "-1.23"}, {"-99", 2, "-0.99"}, {"100", 2, "1.00"}, {"1000", 2, "10.00"}, {"1", 12, "0.000000000001"},
		{"-1234567890123", 12, "-1.234567890123"}, {"123456789012", 12, "0.123456789012"}, {"1000000000000000000000", 3, "1000000000000000000.000"},
		{"007", 1, "0.7"}, {"-0", 2, "0.00"}, {"-", 0, "0"}, {"-000", 1, "0.0"}, {"x", 2, "0.00"}, {"1x", 2, "0.00"}, {"--1", 2, "0.00"}, {"1.5", 1, "0.0"}, {"-0012", 1, "-1.2"},
	} {
		if got, e := decimal.Text(c.units, c.places); got != c.want || e != api.OK {
			t.Errorf("Text(%q, %d) = %q, %d", c.units, c.places, got, e)
		}
	}
}

func TestTextAndParse(t *testing.T) {
	s := newSource(7)
	for range 3000 {
		units := s.integer()
		places := s.Intn(api.MaxPlaces + 1)
		text, e := decimal.Text(units, places)
		want := new(big.Rat).SetFrac(number(units), tenTo(places)).FloatString(places)
		if text != want || e != api.OK {
			t.Fatalf("Text(%q, %d) = %q, %d", units, places, text, e)
		}
		if got, e := decimal.Text(padded(number(units), 1+s.Intn(3)), places); got != want || e != api.OK {
			t.Fatalf("Text(%q, %d) depends on leading zeros: %q, %d", units, places, got, e)
		}
		if got, e := decimal.Parse(text, places); got != units || e != api.OK {
			t.Fatalf("Parse(%q, %d) = %q, %d", text, places, got, e)
		}
	}
}

// TestTextsAreUnique looks for texts that have the same places and the same value among all short strings.
func TestTextsAreUnique(t *testing.T) {
	for _, s := range shortStrings("-.01359", 6) {
		f, e := decimal.Fraction(s)
		if e != api.OK {
			continue
		}
		_, behind, _ := strings.Cut(s, ".")
		units, e := decimal.Parse(s, len(behind))
		if e != api.OK {
			t.Fatalf("Parse(%q, %d): %d", s, len(behind), e)
		}
		if text, e := decimal.Text(units, len(behind)); text != s || e != api.OK {
			t.Fatalf("%q has the value %q, and the text %q, %d", s, f, text, e)
		}
	}
}

// shortStrings returns all strings of up to length characters from a list.
func shortStrings(characters string, length int) []string {
	all, last := []string{""}, []string{""}
	for range length {
		var longer []string
		for _, s := range last {
			for _, c := range characters {
				longer = append(longer, s+string(c))
			}
		}
		all, last = append(all, longer...), longer
	}
	return all
}

// P3.6

func TestFraction(t *testing.T) {
	for s, want := range map[string]api.Frac{
		"0": frac("", ""), "0.0": frac("", ""), "0.000": frac("", ""), "1": frac("1", ""), "-1": frac("-1", ""), "10": frac("10", ""), "1.0": frac("1", ""), "-1.00": frac("-1", ""),
		"0.5": frac("1", "2"), "-0.5": frac("-1", "2"), "0.05": frac("1", "20"), "-0.05": frac("-1", "20"), "1.50": frac("3", "2"), "-12.125": frac("-97", "8"), "3.3": frac("33", "10"),
		"100000000000000000000.01": frac("10000000000000000000001", "100"), "0.000000000000000000001": frac("1", "1000000000000000000000"), "10.10": frac("101", "10"),
	} {
		if got, e := decimal.Fraction(s); got != want || e != api.OK {
			t.Errorf("Fraction(%q) = %q, %d", s, got, e)
		}
	}
}

func TestTextsThatAreNoDecimalTexts(t *testing.T) {
	for _, s := range []string{
		"", "-", ".", "-.", "1.", "-1.", "0.", ".5", "-.5", "-0", "-0.0", "-0.00", "00", "01", "00.5", "01.5", "-00.5", "-01", "--1", "-1-", "1-", "+1", "+0.5", "-+1", "1.+5", "1.-5", "-.-5",
		"1..5", "1.5.", "1.5.0", "..", ".1.", " 1", "1 ", "1 .5", "1. 5", "1.5\n", "\n1", "\x001", "1.5\x00", "1,5", "1,000.5", "1_000", "1e3", "1.5e3", "0x1", "0x1p-2", "1/2", "x", "1.x", "x.1", "1x",
		"0.x", "0.5x", "x.00", "Inf", "NaN", "\xff", "1.\xff", "\u0661", "1.\u0665", "\u22121", "1\u00b75", "\uff11", "1'000",
	} {
		if got, e := decimal.Fraction(s); got != frac("", "") || e != api.ErrSyntax {
			t.Errorf("Fraction(%q) = %q, %d", s, got, e)
		}
		for _, places := range []int{0, 1, 12} {
			if got, e := decimal.Parse(s, places); got != "" || e != api.ErrSyntax {
				t.Errorf("Parse(%q, %d) = %q, %d", s, places, got, e)
			}
		}
	}
}

// TestEveryShortText compares Fraction and Parse with the definitions for all short strings.
func TestEveryShortText(t *testing.T) {
	for _, s := range shortStrings("-.0125x", 6) {
		want, code := api.Frac{}, api.ErrSyntax
		if isDecimal(s) {
			want, code = canonical(value(s)), api.OK
		}
		if got, e := decimal.Fraction(s); got != want || e != code {
			t.Fatalf("Fraction(%q) = %q, %d, want %q, %d", s, got, e, want, code)
		}
		for _, places := range []int{0, 1, 3} {
			compareParse(t, s, places)
		}
	}
}

// compareParse compares Parse with its definition.
func compareParse(t *testing.T, s string, places int) {
	t.Helper()
	want, code := api.Int(""), api.ErrSyntax
	if isDecimal(s) {
		code = api.ErrInexact
		if units := times(value(s), tenTo(places)); units.IsInt() {
			want, code = whole(units.Num()), api.OK
		}
	}
	if got, e := decimal.Parse(s, places); got != want || e != code {
		t.Fatalf("Parse(%q, %d) = %q, %d, want %q, %d", s, places, got, e, want, code)
	}
}

func TestParse(t *testing.T) {
	for _, c := range []struct {
		s      string
		places int
		want   api.Int
		e      api.Errno
	}{
		{"1.50", 1, "15", api.OK}, {"1.55", 1, "", api.ErrInexact}, {"1.55", 2, "155", api.OK}, {"1.55", 12, "1550000000000", api.OK}, {"0", 0, "", api.OK}, {"0.000", 2, "", api.OK},
		{"0", 12, "", api.OK}, {"-1", 2, "-100", api.OK}, {"-0.05", 2, "-5", api.OK}, {"-0.05", 1, "", api.ErrInexact}, {"-0.10", 1, "-1", api.OK}, {"7", 0, "7", api.OK}, {"7.0", 0, "7", api.OK},
		{"7.000", 0, "7", api.OK}, {"7.001", 0, "", api.ErrInexact}, {"7.001", 2, "", api.ErrInexact}, {"0.0000000000001", 12, "", api.ErrInexact}, {"0.0000000000010", 12, "1", api.OK},
		{"123456789012345678901234567890.12", 2, "12345678901234567890123456789012", api.OK}, {"10", 1, "100", api.OK}, {"-0", 2, "", api.ErrSyntax}, {"1.", 0, "", api.ErrSyntax},
	} {
		if got, e := decimal.Parse(c.s, c.places); got != c.want || e != c.e {
			t.Errorf("Parse(%q, %d) = %q, %d", c.s, c.places, got, e)
		}
	}
}

func TestParseAndFractionAgree(t *testing.T) {
	s := newSource(8)
	for range 3000 {
		units, written := number(s.integer()), s.Intn(20)
		text := new(big.Rat).SetFrac(units, tenTo(written)).FloatString(written)
		f, e := decimal.Fraction(text)
		if e != api.OK || f != canonical(value(text)) {
			t.Fatalf("Fraction(%q) = %q, %d", text, f, e)
		}
		for places := range api.MaxPlaces + 1 {
			compareParse(t, text, places)
			got, e := decimal.Parse(text, places)
			more, f := decimal.Parse(text, places+1)
			if e == api.OK && places < api.MaxPlaces && (f != api.OK || !same(number(more), new(big.Int).Mul(number(got), big.NewInt(10)))) {
				t.Fatalf("Parse(%q, %d) = %q, and with one place more %q, %d", text, places, got, more, f)
			}
		}
	}
}

func TestLimitOfTexts(t *testing.T) {
	long := strings.Repeat("7", api.MaxText)
	if got, e := decimal.Fraction(long); got != frac(api.Int(long), "") || e != api.OK {
		t.Errorf("a text of MaxText bytes: %d", e)
	}
	if got, e := decimal.Parse("-"+long[1:], 1); got != api.Int("-"+long[1:]+"0") || e != api.OK {
		t.Errorf("a negative text of MaxText bytes: %d", e)
	}
	places := "0." + strings.Repeat("0", api.MaxText-2)
	if got, e := decimal.Parse(places, 0); got != "" || e != api.OK {
		t.Errorf("a text with %d places: %d", api.MaxText-2, e)
	}
	if got, e := decimal.Parse(places[1:]+"1", 12); got != "" || e != api.ErrSyntax {
		t.Errorf("MaxText bytes that are no text: %d", e)
	}
	if got, e := decimal.Parse(places[:api.MaxText-1]+"1", 12); got != "" || e != api.ErrInexact {
		t.Errorf("MaxText bytes that are not exact: %d", e)
	}
	for _, s := range []string{long + "7", places + "0", places + "1", strings.Repeat("x", api.MaxText+1), strings.Repeat("-", 2*api.MaxText)} {
		if got, e := decimal.Fraction(s); got != frac("", "") || e != api.ErrLimit {
			t.Errorf("Fraction of %d bytes: %d", len(s), e)
		}
		if got, e := decimal.Parse(s, 2); got != "" || e != api.ErrLimit {
			t.Errorf("Parse of %d bytes: %d", len(s), e)
		}
	}
}

// P3.7

func TestFinite(t *testing.T) {
	for _, c := range []struct {
		f      api.Frac
		places int
		is     bool
	}{
		{frac("1", "8"), 3, true}, {frac("1", "3"), 0, false}, {frac("", ""), 0, true}, {frac("7", ""), 0, true}, {frac("-7", "1"), 0, true}, {frac("1", "2"), 1, true}, {frac("1", "5"), 1, true},
		{frac("1", "10"), 1, true}, {frac("1", "4"), 2, true}, {frac("1", "25"), 2, true}, {frac("1", "20"), 2, true}, {frac("1", "50"), 2, true}, {frac("-1", "160"), 5, true}, {frac("1", "6250"), 5, true},
		{frac("3", "6"), 1, true}, {frac("3", "-60"), 2, true}, {frac("-9", "-3"), 0, true}, {frac("1", "6"), 0, false}, {frac("1", "15"), 0, false}, {frac("-1", "70"), 0, false}, {frac("2", "14"), 0, false},
		{frac("7", "0"), 0, true}, {frac("7", "x"), 0, true}, {frac("x", "3"), 0, true}, {frac("0", "-3"), 0, true}, {frac("007", "0014"), 1, true}, {frac("1", "11"), 0, false}, {frac("\xff", "\xff"), 0, true},
		{frac("1", "1267650600228229401496703205376"), 100, true}, {frac("1", "1267650600228229401496703205377"), 0, false}, {frac("1", "10000000000000000000000000000000"), 31, true},
		{frac("1", "3552713678800500929355621337890625"), 48, true}, {frac("1", "888178419700125232338905334472656250"), 51, true}, {frac("1", "10000000000000000000000000000002"), 0, false},
	} {
		if places, is := decimal.Finite(c.f); places != c.places || is != c.is {
			t.Errorf("Finite(%q) = %d, %t", c.f, places, is)
		}
	}
}

// TestFiniteNumbersByTheirFactors takes denominators with all small numbers of factors 2, 5 and 3.
func TestFiniteNumbersByTheirFactors(t *testing.T) {
	s := newSource(9)
	den := func(base, n int64) *big.Int { return new(big.Int).Exp(big.NewInt(base), big.NewInt(n), nil) }
	for twos := range int64(24) {
		for fives := range int64(24) {
			d := new(big.Int).Mul(den(2, twos), den(5, fives))
			f := frac("-7", whole(d))
			for _, g := range []api.Frac{f, s.disguise(f)} {
				if places, is := decimal.Finite(g); places != int(max(twos, fives)) || !is {
					t.Fatalf("Finite(%q) = %d, %t", g, places, is)
				}
			}
			d.Mul(d, den(3, 1+twos%3))
			if places, is := decimal.Finite(frac("-7", whole(d))); places != 0 || is {
				t.Fatalf("Finite(-7/%v) = %d, %t", d, places, is)
			}
		}
	}
}

func TestFiniteNumbersAreTheValuesOfTheirTexts(t *testing.T) {
	s := newSource(10)
	for range 5000 {
		f := s.next()
		x := rational(f)
		places, is := decimal.Finite(f)
		// The source yields no finite number with more than 20 places.
		if is != times(x, tenTo(40)).IsInt() || !is && places != 0 {
			t.Fatalf("Finite(%q) = %d, %t", f, places, is)
		}
		if !is {
			continue
		}
		if !times(x, tenTo(places)).IsInt() || places > 0 && times(x, tenTo(places-1)).IsInt() {
			t.Fatalf("Finite(%q) = %d", f, places)
		}
		if places > api.MaxPlaces {
			continue
		}
		for _, mode := range modes() {
			text, e := decimal.Format(f, places, mode)
			if got, code := decimal.Fraction(text); got != f || e != api.OK || code != api.OK {
				t.Fatalf("the text of %q is %q, with the value %q", f, text, got)
			}
		}
	}
}

// R5

func TestResultsDependOnArgumentsOnly(t *testing.T) {
	f := frac("-987654321098765432109", "80")
	text, _ := decimal.Format(f, 3, api.HalfEven)
	units, _ := decimal.Parse("-12.340", 3)
	for range 100 {
		got, e := decimal.Format(f, 3, api.HalfEven)
		parsed, code := decimal.Parse("-12.340", 3)
		if got != text || e != api.OK || parsed != units || code != api.OK {
			t.Fatal("results change")
		}
	}
}
