package fraction_test

import (
	"math"
	"math/big"
	"slices"
	"strings"
	"testing"

	"tranche/api"
	"tranche/fraction"
)

// P2.1

func TestCheckAcceptsCanonicalFractionsOnly(t *testing.T) {
	for _, f := range edges() {
		if e := fraction.Check(f); e != api.OK {
			t.Errorf("Check(%q) = %d", f, e)
		}
	}
	for _, f := range unusual() {
		if e := fraction.Check(f); e != api.ErrArgument {
			t.Errorf("Check(%q) = %d", f, e)
		}
	}
	s := newSource(1)
	for range 5000 {
		f := s.next()
		if e := fraction.Check(f); e != api.OK {
			t.Fatalf("Check(%q) = %d", f, e)
		}
		if g := s.disguise(f); fraction.Check(g) != api.ErrArgument {
			t.Fatalf("Check(%q) accepts it", g)
		}
	}
}

// TestEverySmallFraction compares Check with its definition for all fractions of short integers.
func TestEverySmallFraction(t *testing.T) {
	integers := []api.Int{"", "0", "-0", "-", "1", "-1", "01", "2", "-2", "02", "3", "4", "6", "-6", "9", "10", "12", "-12", "25", "x"}
	for _, num := range integers {
		for _, den := range integers {
			f := frac(num, den)
			want := api.ErrArgument
			if canonical(rational(f)) == f {
				want = api.OK
			}
			if e := fraction.Check(f); e != want {
				t.Errorf("Check(%q) = %d, want %d", f, e, want)
			}
			compareWithBig(t, f, frac("5", "-6"))
			compareWithBig(t, frac("-3", "10"), f)
		}
	}
}

func TestResultsAreExact(t *testing.T) {
	for _, f := range edges() {
		for _, g := range edges() {
			compareWithBig(t, f, g)
		}
	}
	s := newSource(2)
	for range 5000 {
		compareWithBig(t, s.next(), s.next())
	}
}

// TestOnlyValuesMatter passes fractions that are not canonical, in each place of each function.
func TestOnlyValuesMatter(t *testing.T) {
	others := []api.Frac{frac("", ""), frac("1", ""), frac("-1", "2"), frac("12", "-18"), frac("5", "x"), frac("-123456789012345678901", "1000")}
	for _, f := range unusual() {
		for _, g := range others {
			compareWithBig(t, f, g)
			compareWithBig(t, g, f)
		}
	}
	s := newSource(3)
	for range 3000 {
		compareWithBig(t, s.disguise(s.next()), s.disguise(s.next()))
	}
}

// compareWithBig compares the functions of one and of two fractions with the library's arithmetic.
func compareWithBig(t *testing.T, f, g api.Frac) {
	t.Helper()
	compareParts(t, f)
	x, y := rational(f), rational(g)
	for _, c := range []struct {
		name string
		got  api.Frac
		want *big.Rat
	}{
		{"Neg", fraction.Neg(f), new(big.Rat).Neg(x)},
		{"Add", fraction.Add(f, g), new(big.Rat).Add(x, y)},
		{"Sub", fraction.Sub(f, g), new(big.Rat).Sub(x, y)},
		{"Mul", fraction.Mul(f, g), new(big.Rat).Mul(x, y)},
	} {
		if c.got != canonical(c.want) {
			t.Fatalf("%s(%q, %q) = %q, want %v", c.name, f, g, c.got, c.want)
		}
	}
	if got := fraction.Compare(f, g); got != x.Cmp(y) {
		t.Fatalf("Compare(%q, %q) = %d", f, g, got)
	}
	want, code := api.Frac{}, api.ErrDivide
	if y.Sign() != 0 {
		want, code = canonical(new(big.Rat).Quo(x, y)), api.OK
	}
	if got, e := fraction.Quo(f, g); got != want || e != code {
		t.Fatalf("Quo(%q, %q) = %q, %d, want %q, %d", f, g, got, e, want, code)
	}
}

// compareParts compares the functions of one fraction, and of its numbers, with the library's arithmetic.
func compareParts(t *testing.T, f api.Frac) {
	t.Helper()
	x := rational(f)
	if num, den := fraction.Parts(f); num != whole(x.Num()) || den != whole(x.Denom()) {
		t.Fatalf("Parts(%q) = %q, %q", f, num, den)
	}
	// The denominator is positive, so that Div rounds down.
	if got := fraction.Floor(f); got != whole(new(big.Int).Div(x.Num(), x.Denom())) {
		t.Fatalf("Floor(%q) = %q", f, got)
	}
	if got := fraction.Print(f); got != x.RatString() {
		t.Fatalf("Print(%q) = %q", f, got)
	}
	if got := fraction.Of(f.Num); got != canonical(rational(frac(f.Num, ""))) {
		t.Fatalf("Of(%q) = %q", f.Num, got)
	}
	want, code := api.Frac{}, api.ErrDivide
	if number(f.Den).Sign() != 0 {
		want, code = canonical(x), api.OK
	}
	if got, e := fraction.New(f.Num, f.Den); got != want || e != code {
		t.Fatalf("New(%q, %q) = %q, %d, want %q, %d", f.Num, f.Den, got, e, want, code)
	}
}

func TestNew(t *testing.T) {
	for _, c := range []struct {
		n, d api.Int
		want api.Frac
	}{
		{"1", "2", frac("1", "2")}, {"2", "4", frac("1", "2")}, {"6", "-4", frac("-3", "2")}, {"-6", "-4", frac("3", "2")}, {"-6", "4", frac("-3", "2")},
		{"6", "3", frac("2", "")}, {"6", "-3", frac("-2", "")}, {"5", "1", frac("5", "")}, {"5", "-1", frac("-5", "")}, {"7", "7", frac("1", "")},
		{"", "5", frac("", "")}, {"0", "-5", frac("", "")}, {"x", "5", frac("", "")}, {"007", "-0021", frac("-1", "3")},
		{"1000000000000000000000", "1500000000000000000000", frac("2", "3")},
	} {
		if got, e := fraction.New(c.n, c.d); got != c.want || e != api.OK {
			t.Errorf("New(%q, %q) = %q, %d", c.n, c.d, got, e)
		}
	}
}

func TestDivisionByZero(t *testing.T) {
	for _, zero := range zeros() {
		for _, n := range []api.Int{"", "1", "-7", "x", "123456789012345678901"} {
			if got, e := fraction.New(n, zero); got != frac("", "") || e != api.ErrDivide {
				t.Errorf("New(%q, %q) = %q, %d", n, zero, got, e)
			}
		}
		for _, den := range []api.Int{"", "1", "7", "-7", "x", zero} {
			for _, f := range []api.Frac{frac("", ""), frac("5", "3"), frac("-5", "0"), frac("x", "y")} {
				if got, e := fraction.Quo(f, frac(zero, den)); got != frac("", "") || e != api.ErrDivide {
					t.Errorf("Quo(%q, %q) = %q, %d", f, frac(zero, den), got, e)
				}
			}
		}
	}
}

// TestDenominatorsWithoutValue passes denominators with the value 0, which count as 1.
func TestDenominatorsWithoutValue(t *testing.T) {
	for _, zero := range zeros() {
		f := frac("-7", zero)
		if num, den := fraction.Parts(f); num != "-7" || den != "1" {
			t.Errorf("Parts(%q) = %q, %q", f, num, den)
		}
		if got := fraction.Add(f, frac("1", "2")); got != frac("-13", "2") {
			t.Errorf("-7 + 1/2 = %q, with the denominator %q", got, zero)
		}
		if got := fraction.Sub(frac("1", "2"), f); got != frac("15", "2") {
			t.Errorf("1/2 - -7 = %q, with the denominator %q", got, zero)
		}
		if got, e := fraction.Quo(frac("1", "2"), f); got != frac("-1", "14") || e != api.OK {
			t.Errorf("1/2 / -7 = %q, %d, with the denominator %q", got, e, zero)
		}
		if got := fraction.Print(f); got != "-7" {
			t.Errorf("Print(%q) = %q", f, got)
		}
	}
}

func TestParts(t *testing.T) {
	for _, c := range []struct {
		f        api.Frac
		num, den api.Int
	}{
		{frac("", ""), "", "1"}, {frac("", "5"), "", "1"}, {frac("3", ""), "3", "1"}, {frac("3", "1"), "3", "1"}, {frac("3", "-1"), "-3", "1"},
		{frac("2", "4"), "1", "2"}, {frac("6", "-4"), "-3", "2"}, {frac("-3", "2"), "-3", "2"}, {frac("4", "2"), "2", "1"}, {frac("x", "2"), "", "1"},
	} {
		if num, den := fraction.Parts(c.f); num != c.num || den != c.den {
			t.Errorf("Parts(%q) = %q, %q", c.f, num, den)
		}
	}
}

func TestLongFractions(t *testing.T) {
	long := api.Int(strings.Repeat("7", 6000))
	next := api.Int(strings.Repeat("7", 5999) + "8")
	below, above := frac(long, next), frac(next, long)
	if got := fraction.Mul(below, above); got != frac("1", "") {
		t.Error("a long product is not 1")
	}
	if got := fraction.Sub(fraction.Add(below, above), above); got != below {
		t.Error("Sub does not undo Add for long fractions")
	}
	if fraction.Compare(below, above) != -1 || fraction.Floor(below) != "" || fraction.Floor(above) != "1" {
		t.Error("the order of long fractions is wrong")
	}
}

// TestOtherArguments passes what no fraction looks like; a result must come back, and be canonical.
func TestOtherArguments(t *testing.T) {
	for _, text := range []string{"", "-", "/", "1/2", "\x00", "\xff\xfe", strings.Repeat("-", 1000), strings.Repeat("x", 1000), strings.Repeat("0", 1000)} {
		f := frac(api.Int(text), api.Int(text))
		for _, got := range []api.Frac{fraction.Neg(f), fraction.Add(f, f), fraction.Sub(f, f), fraction.Mul(f, f), fraction.Of(f.Num)} {
			if got != frac("", "") {
				t.Errorf("%q leads to %q", text, got)
			}
		}
		if fraction.Floor(f) != "" || fraction.Compare(f, f) != 0 || fraction.Print(f) != "0" {
			t.Errorf("%q is not 0", text)
		}
	}
}

// P2.2

func TestField(t *testing.T) {
	s := newSource(4)
	for range 3000 {
		f, g, h := s.next(), s.next(), s.next()
		if fraction.Add(f, g) != fraction.Add(g, f) || fraction.Mul(f, g) != fraction.Mul(g, f) {
			t.Fatalf("%q and %q do not commute", f, g)
		}
		if fraction.Add(fraction.Add(f, g), h) != fraction.Add(f, fraction.Add(g, h)) {
			t.Fatalf("the sum of %q, %q and %q depends on the order", f, g, h)
		}
		if fraction.Mul(fraction.Mul(f, g), h) != fraction.Mul(f, fraction.Mul(g, h)) {
			t.Fatalf("the product of %q, %q and %q depends on the order", f, g, h)
		}
		if fraction.Mul(f, fraction.Add(g, h)) != fraction.Add(fraction.Mul(f, g), fraction.Mul(f, h)) {
			t.Fatalf("%q times the sum of %q and %q is not the sum of the products", f, g, h)
		}
	}
}

func TestInverseOperations(t *testing.T) {
	s := newSource(5)
	for range 3000 {
		f, g, p := s.next(), s.next(), s.nonzero()
		if fraction.Sub(fraction.Add(f, g), g) != f || fraction.Add(fraction.Sub(f, g), g) != f {
			t.Fatalf("Sub does not undo Add for %q and %q", f, g)
		}
		if got := quotient(t, fraction.Mul(f, p), p); got != f {
			t.Fatalf("Quo does not undo Mul for %q and %q: %q", f, p, got)
		}
		if got := fraction.Mul(quotient(t, f, p), p); got != f {
			t.Fatalf("Mul does not undo Quo for %q and %q: %q", f, p, got)
		}
		if fraction.Sub(f, g) != fraction.Add(f, fraction.Neg(g)) {
			t.Fatalf("Sub(%q, %q) does not add the opposite", f, g)
		}
	}
}

// quotient returns a quotient that must exist.
func quotient(t *testing.T, f, g api.Frac) api.Frac {
	t.Helper()
	q, e := fraction.Quo(f, g)
	if e != api.OK {
		t.Fatalf("Quo(%q, %q): %d", f, g, e)
	}
	return q
}

func TestNeutralElements(t *testing.T) {
	zero, one := frac("", ""), frac("1", "")
	for _, f := range edges() {
		if fraction.Add(f, zero) != f || fraction.Sub(f, zero) != f || fraction.Mul(f, one) != f || quotient(t, f, one) != f {
			t.Errorf("0 or 1 changes %q", f)
		}
		if fraction.Sub(f, f) != zero || fraction.Add(f, fraction.Neg(f)) != zero || fraction.Mul(f, zero) != zero {
			t.Errorf("%q does not vanish", f)
		}
		if fraction.Neg(fraction.Neg(f)) != f || fraction.Neg(f) != fraction.Mul(f, frac("-1", "")) {
			t.Errorf("Neg(%q) = %q", f, fraction.Neg(f))
		}
		if f != zero && (quotient(t, f, f) != one || fraction.Mul(f, quotient(t, one, f)) != one) {
			t.Errorf("%q has no inverse", f)
		}
	}
}

func TestOperations(t *testing.T) {
	for _, c := range []struct{ f, g, sum, difference, product, quotient api.Frac }{
		{frac("1", "2"), frac("1", "3"), frac("5", "6"), frac("1", "6"), frac("1", "6"), frac("3", "2")},
		{frac("1", "2"), frac("1", "2"), frac("1", ""), frac("", ""), frac("1", "4"), frac("1", "")},
		{frac("1", "2"), frac("-1", "2"), frac("", ""), frac("1", ""), frac("-1", "4"), frac("-1", "")},
		{frac("-3", "4"), frac("-5", "6"), frac("-19", "12"), frac("1", "12"), frac("5", "8"), frac("9", "10")},
		{frac("2", ""), frac("-3", ""), frac("-1", ""), frac("5", ""), frac("-6", ""), frac("-2", "3")},
		{frac("2", "4"), frac("3", "-6"), frac("", ""), frac("1", ""), frac("-1", "4"), frac("-1", "")},
		{frac("", ""), frac("-2", "5"), frac("-2", "5"), frac("2", "5"), frac("", ""), frac("", "")},
		{frac("7", "0"), frac("1", "x"), frac("8", ""), frac("6", ""), frac("7", ""), frac("7", "")},
	} {
		if got := fraction.Add(c.f, c.g); got != c.sum {
			t.Errorf("Add(%q, %q) = %q", c.f, c.g, got)
		}
		if got := fraction.Sub(c.f, c.g); got != c.difference {
			t.Errorf("Sub(%q, %q) = %q", c.f, c.g, got)
		}
		if got := fraction.Mul(c.f, c.g); got != c.product {
			t.Errorf("Mul(%q, %q) = %q", c.f, c.g, got)
		}
		if got, e := fraction.Quo(c.f, c.g); got != c.quotient || e != api.OK {
			t.Errorf("Quo(%q, %q) = %q, %d", c.f, c.g, got, e)
		}
	}
}

// P2.3

func TestCompare(t *testing.T) {
	for _, c := range []struct {
		f, g api.Frac
		want int
	}{
		{frac("1", "2"), frac("1", "3"), 1}, {frac("1", "3"), frac("1", "2"), -1}, {frac("-1", "2"), frac("-1", "3"), -1}, {frac("-1", "3"), frac("-1", "2"), 1},
		{frac("1", "-2"), frac("1", "3"), -1}, {frac("1", "3"), frac("1", "-2"), 1}, {frac("-1", "-2"), frac("1", "3"), 1}, {frac("1", "-2"), frac("1", "-3"), -1},
		{frac("2", "4"), frac("1", "2"), 0}, {frac("6", "-4"), frac("-3", "2"), 0}, {frac("", "5"), frac("0", "-3"), 0}, {frac("x", "5"), frac("", ""), 0},
		{frac("7", "0"), frac("7", ""), 0}, {frac("7", "x"), frac("15", "2"), -1}, {frac("", ""), frac("1", "1000000000000"), -1}, {frac("", ""), frac("-1", "1000000000000"), 1},
		{frac("10", ""), frac("9", ""), 1}, {frac("-10", ""), frac("9", ""), -1}, {frac("99999999999999999999", "100000000000000000000"), frac("1", ""), -1},
		{frac("9007199254740993", "9007199254740992"), frac("1", ""), 1}, {frac("9007199254740993", "2"), frac("9007199254740992", "2"), 1},
	} {
		if got := fraction.Compare(c.f, c.g); got != c.want {
			t.Errorf("Compare(%q, %q) = %d, want %d", c.f, c.g, got, c.want)
		}
	}
}

func TestOrderIsTotal(t *testing.T) {
	all := edges()
	for _, f := range all {
		for _, g := range all {
			got := fraction.Compare(f, g)
			if got != -fraction.Compare(g, f) || (got == 0) != (f == g) || got < -1 || got > 1 {
				t.Fatalf("Compare(%q, %q) = %d", f, g, got)
			}
		}
	}
	slices.SortFunc(all, fraction.Compare)
	for i, f := range all {
		for _, g := range all[i+1:] {
			if fraction.Compare(f, g) != -1 {
				t.Fatalf("%q is sorted before %q", f, g)
			}
		}
	}
}

func TestOrderIsKept(t *testing.T) {
	s := newSource(6)
	for range 3000 {
		f, g, h := s.next(), s.next(), s.next()
		want := fraction.Compare(f, g)
		if got := fraction.Compare(fraction.Add(f, h), fraction.Add(g, h)); got != want {
			t.Fatalf("adding %q changes the order of %q and %q", h, f, g)
		}
		p := frac(s.positive(), s.positive())
		if got := fraction.Compare(fraction.Mul(f, p), fraction.Mul(g, p)); got != want {
			t.Fatalf("multiplying with %q changes the order of %q and %q", p, f, g)
		}
		if got := fraction.Compare(fraction.Sub(f, g), frac("", "")); got != want {
			t.Fatalf("the difference of %q and %q has another sign than their order", f, g)
		}
		if got := fraction.Compare(s.disguise(f), s.disguise(g)); got != want {
			t.Fatalf("the order of %q and %q depends on their form", f, g)
		}
	}
}

// P2.4

func TestFloor(t *testing.T) {
	for _, c := range []struct {
		f    api.Frac
		want api.Int
	}{
		{frac("-7", "2"), "-4"}, {frac("7", "2"), "3"}, {frac("7", "-2"), "-4"}, {frac("-7", "-2"), "3"}, {frac("6", "2"), "3"}, {frac("-6", "2"), "-3"},
		{frac("6", "-3"), "-2"}, {frac("", ""), ""}, {frac("", "-3"), ""}, {frac("5", ""), "5"}, {frac("-5", ""), "-5"}, {frac("-5", "0"), "-5"}, {frac("5", "x"), "5"},
		{frac("x", "5"), ""}, {frac("1", "3"), ""}, {frac("-1", "3"), "-1"}, {frac("1", "-3"), "-1"}, {frac("-1", "1000000000000000000000"), "-1"},
		{frac("999999999999999999999", "1000000000000000000000"), ""}, {frac("-1000000000000000000001", "1000000000000000000000"), "-2"},
	} {
		if got := fraction.Floor(c.f); got != c.want {
			t.Errorf("Floor(%q) = %q", c.f, got)
		}
	}
}

func TestFloorIsBetween(t *testing.T) {
	s := newSource(7)
	for range 5000 {
		f := s.next()
		floor := fraction.Of(fraction.Floor(f))
		if floor.Den != "" || fraction.Compare(floor, f) > 0 || fraction.Compare(floor, fraction.Sub(f, frac("1", ""))) <= 0 {
			t.Fatalf("Floor(%q) = %q", f, floor)
		}
		if fraction.Floor(floor) != floor.Num {
			t.Fatalf("Floor changes the integer %q", floor)
		}
	}
}

// P2.5

func TestResultsAreCanonical(t *testing.T) {
	s := newSource(8)
	all := append(unusual(), edges()...)
	for range 500 {
		all = append(all, s.disguise(s.next()))
	}
	for i, f := range all {
		g := all[len(all)-1-i]
		results := []api.Frac{fraction.Neg(f), fraction.Add(f, g), fraction.Sub(f, g), fraction.Mul(f, g), fraction.Of(f.Num)}
		for _, result := range []func() (api.Frac, api.Errno){
			func() (api.Frac, api.Errno) { return fraction.New(f.Num, g.Num) },
			func() (api.Frac, api.Errno) { return fraction.Quo(f, g) },
			func() (api.Frac, api.Errno) { return fraction.Power(f, i%7-3) },
			func() (api.Frac, api.Errno) { return fraction.Parse(fraction.Print(f)) },
		} {
			got, _ := result()
			results = append(results, got)
		}
		for n, got := range results {
			if got != canonical(rational(got)) || fraction.Check(got) != api.OK {
				t.Fatalf("result %d for %q and %q is %q", n, f, g, got)
			}
		}
		num, den := fraction.Parts(f)
		for _, a := range []api.Int{num, den, fraction.Floor(f)} {
			if a != whole(number(a)) {
				t.Fatalf("the parts or the floor of %q are not canonical: %q", f, a)
			}
		}
	}
}

func TestEqualValuesAreEqualStructs(t *testing.T) {
	s := newSource(9)
	zero := frac("", "")
	for range 3000 {
		f := s.next()
		g := s.disguise(f)
		if fraction.Add(f, zero) != fraction.Add(g, zero) || fraction.Compare(f, g) != 0 {
			t.Fatalf("%q and %q have the same value", f, g)
		}
		h := s.disguise(s.next())
		if same := fraction.Add(f, zero) == fraction.Add(h, zero); same != (rational(f).Cmp(rational(h)) == 0) {
			t.Fatalf("%q and %q have the same value: %t", f, h, same)
		}
	}
	for _, f := range unusual() {
		if got := fraction.Add(f, zero); got == f || got != canonical(rational(f)) {
			t.Errorf("%q + 0 = %q", f, got)
		}
	}
}

// P2.6

func TestPower(t *testing.T) {
	for _, c := range []struct {
		f    api.Frac
		n    int
		want api.Frac
		e    api.Errno
	}{
		{frac("-2", "3"), -3, frac("-27", "8"), api.OK}, {frac("-2", "3"), 3, frac("-8", "27"), api.OK}, {frac("-2", "3"), 2, frac("4", "9"), api.OK},
		{frac("-2", "3"), -2, frac("9", "4"), api.OK}, {frac("-2", "3"), 1, frac("-2", "3"), api.OK}, {frac("-2", "3"), -1, frac("-3", "2"), api.OK},
		{frac("-2", "3"), 0, frac("1", ""), api.OK}, {frac("4", "-6"), -3, frac("-27", "8"), api.OK}, {frac("6", "-4"), 2, frac("9", "4"), api.OK},
		{frac("5", ""), 3, frac("125", ""), api.OK}, {frac("5", ""), -3, frac("1", "125"), api.OK}, {frac("1", "5"), -3, frac("125", ""), api.OK},
		{frac("-1", "5"), -3, frac("-125", ""), api.OK}, {frac("-5", "x"), -1, frac("-1", "5"), api.OK}, {frac("2", ""), 64, frac("18446744073709551616", ""), api.OK},
		{frac("", ""), 0, frac("1", ""), api.OK}, {frac("x", "7"), 0, frac("1", ""), api.OK}, {frac("", ""), 1, frac("", ""), api.OK}, {frac("", "3"), 400, frac("", ""), api.OK},
		{frac("1", ""), 400, frac("1", ""), api.OK}, {frac("-1", ""), -400, frac("1", ""), api.OK}, {frac("-1", ""), -399, frac("-1", ""), api.OK},
		{frac("10", ""), 400, frac(api.Int("1"+strings.Repeat("0", 400)), ""), api.OK}, {frac("10", ""), -400, frac("1", api.Int("1"+strings.Repeat("0", 400))), api.OK},
		{frac("", ""), -1, frac("", ""), api.ErrDivide}, {frac("0", "5"), -400, frac("", ""), api.ErrDivide}, {frac("x", ""), -2, frac("", ""), api.ErrDivide},
		{frac("2", "3"), 401, frac("", ""), api.ErrRange}, {frac("2", "3"), -401, frac("", ""), api.ErrRange}, {frac("1", ""), 401, frac("", ""), api.ErrRange},
		{frac("2", "3"), math.MaxInt, frac("", ""), api.ErrRange}, {frac("2", "3"), math.MinInt, frac("", ""), api.ErrRange}, {frac("2", "3"), 1 << 32, frac("", ""), api.ErrRange},
		{frac("", ""), 401, frac("", ""), api.ErrRange}, {frac("", ""), -401, frac("", ""), api.ErrRange}, {frac("", ""), math.MinInt, frac("", ""), api.ErrRange},
	} {
		if got, e := fraction.Power(c.f, c.n); got != c.want || e != c.e {
			t.Errorf("Power(%q, %d) = %q, %d", c.f, c.n, got, e)
		}
	}
}

func TestPowersAreRepeatedProducts(t *testing.T) {
	for _, f := range []api.Frac{frac("1", ""), frac("-1", ""), frac("2", "3"), frac("-7", "5"), frac("10", "-4"), frac("-999999999", "1000000000")} {
		want, inverse := big.NewRat(1, 1), big.NewRat(1, 1)
		for n := range 401 {
			if got, e := fraction.Power(f, n); got != canonical(want) || e != api.OK {
				t.Fatalf("Power(%q, %d) = %q, %d", f, n, got, e)
			}
			if got, e := fraction.Power(f, -n); got != canonical(inverse) || e != api.OK {
				t.Fatalf("Power(%q, %d) = %q, %d", f, -n, got, e)
			}
			want.Mul(want, rational(f))
			inverse.Quo(inverse, rational(f))
		}
	}
}

func TestLawsOfPowers(t *testing.T) {
	s := newSource(10)
	for range 300 {
		f, n, m := s.nonzero(), s.Intn(41)-20, s.Intn(41)-20
		if fraction.Mul(power(t, f, n), power(t, f, m)) != power(t, f, n+m) {
			t.Fatalf("the exponents %d and %d of %q do not add up", n, m, f)
		}
		if quotient(t, frac("1", ""), power(t, f, n)) != power(t, f, -n) {
			t.Fatalf("the power %d of %q is not the inverse of the power %d", -n, f, n)
		}
		if power(t, s.disguise(f), n) != power(t, f, n) {
			t.Fatalf("the power %d of %q depends on its form", n, f)
		}
	}
}

// power returns a power that must exist.
func power(t *testing.T, f api.Frac, n int) api.Frac {
	t.Helper()
	p, e := fraction.Power(f, n)
	if e != api.OK {
		t.Fatalf("Power(%q, %d): %d", f, n, e)
	}
	return p
}

// P2.7

func TestPrint(t *testing.T) {
	for _, c := range []struct {
		f    api.Frac
		want string
	}{
		{frac("6", "-4"), "-3/2"}, {frac("", ""), "0"}, {frac("", "7"), "0"}, {frac("x", "7"), "0"}, {frac("7", ""), "7"}, {frac("-7", "1"), "-7"}, {frac("7", "-1"), "-7"},
		{frac("14", "2"), "7"}, {frac("1", "3"), "1/3"}, {frac("-1", "3"), "-1/3"}, {frac("-1", "-3"), "1/3"}, {frac("007", "0014"), "1/2"}, {frac("3", "x"), "3"},
	} {
		if got := fraction.Print(c.f); got != c.want {
			t.Errorf("Print(%q) = %q", c.f, got)
		}
	}
}

func TestPrintAndParse(t *testing.T) {
	s := newSource(11)
	all := edges()
	for range 2000 {
		all = append(all, s.next())
	}
	for _, f := range all {
		if got, e := fraction.Parse(fraction.Print(f)); got != f || e != api.OK {
			t.Fatalf("Parse(%q) = %q, %d", fraction.Print(f), got, e)
		}
		g := s.disguise(f)
		if got, e := fraction.Parse(fraction.Print(g)); got != f || e != api.OK {
			t.Fatalf("Parse(%q) = %q, %d", fraction.Print(g), got, e)
		}
	}
}

func TestParseAcceptsTextsOnly(t *testing.T) {
	for _, s := range []string{
		"", "-", "-0", "00", "01", "-01", "/", "1/", "/2", "-/2", "1/0", "1/00", "1/1", "3/1", "-3/1", "0/1", "0/2", "0/0", "-0/2", "2/4", "6/-4", "6/4", "1/-2", "-1/-2",
		"-1/-", "1/02", "01/2", "1/2/", "1/2/3", "1//2", "1/2 ", " 1/2", "1 /2", "1/ 2", "1/2\n", "1\\2", "1:2", "+1/2", "1/+2", "x", "1x", "1/x", "x/2", "1/2x", "1x/2",
		"1.5", "1,5", "1e3", "0x1/2", "1/0x2", "\xff", "1/\xff", "1/2\x00", "\u0661/\u0662", "1\u20442", "\u22121/2", "\u00bd",
	} {
		if f, e := fraction.Parse(s); f != frac("", "") || e != api.ErrSyntax {
			t.Errorf("Parse(%q) = %q, %d", s, f, e)
		}
	}
	for s, want := range map[string]api.Frac{
		"0": frac("", ""), "1": frac("1", ""), "-1": frac("-1", ""), "10": frac("10", ""), "1/2": frac("1", "2"), "-1/2": frac("-1", "2"), "-3/2": frac("-3", "2"), "10/9": frac("10", "9"),
		"123456789012345678901/123456789012345678902": frac("123456789012345678901", "123456789012345678902"),
	} {
		if f, e := fraction.Parse(s); f != want || e != api.OK {
			t.Errorf("Parse(%q) = %q, %d", s, f, e)
		}
	}
}

// TestEveryShortText compares Parse with Print for all strings of up to 5 characters.
func TestEveryShortText(t *testing.T) {
	texts, last := []string{""}, []string{""}
	for range 5 {
		var longer []string
		for _, s := range last {
			for _, c := range "-/0126x" {
				longer = append(longer, s+string(c))
			}
		}
		texts, last = append(texts, longer...), longer
	}
	for _, s := range texts {
		num, den, _ := strings.Cut(s, "/")
		want := rational(frac(api.Int(num), api.Int(den)))
		f, e := fraction.Parse(s)
		isText := want.RatString() == s
		if isText && (e != api.OK || f != canonical(want) || fraction.Print(f) != s) || !isText && (e != api.ErrSyntax || f != frac("", "")) {
			t.Errorf("Parse(%q) = %q, %d", s, f, e)
		}
	}
}

func TestParseLimit(t *testing.T) {
	full := strings.Repeat("7", api.MaxText)
	if f, e := fraction.Parse(full); f != frac(api.Int(full), "") || e != api.OK {
		t.Errorf("a text of MaxText bytes: %d", e)
	}
	num := "-1" + strings.Repeat("0", api.MaxText-4)
	if f, e := fraction.Parse(num + "/7"); f != frac(api.Int(num), "7") || e != api.OK {
		t.Errorf("a text of MaxText bytes with a slash: %d", e)
	}
	for _, s := range []string{num + "/x", num + "/2", num + "0/", strings.Repeat("0", api.MaxText), strings.Repeat("/", api.MaxText)} {
		if f, e := fraction.Parse(s); f != frac("", "") || e != api.ErrSyntax {
			t.Errorf("%d bytes that are no text: %d", len(s), e)
		}
	}
	for _, s := range []string{full + "7", num + "1/7", num + "/77", num + "/2x", strings.Repeat("x", api.MaxText+1), strings.Repeat("0", 3*api.MaxText)} {
		if f, e := fraction.Parse(s); f != frac("", "") || e != api.ErrLimit {
			t.Errorf("a text of %d bytes: %d", len(s), e)
		}
	}
}

// R3 and R5: the same arguments lead to the same results, however often they are used.

func TestResultsDependOnArgumentsOnly(t *testing.T) {
	f, g := frac("-987654321098765432109876543210", "123456789"), frac("123456789012345678901", "-42")
	sum, product, text := fraction.Add(f, g), fraction.Mul(f, g), fraction.Print(f)
	for range 100 {
		if fraction.Add(f, g) != sum || fraction.Mul(f, g) != product || fraction.Print(f) != text {
			t.Fatal("results change")
		}
	}
}
