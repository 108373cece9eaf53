package integer_test

import (
	"cmp"
	"math"
	"math/big"
	"slices"
	"strings"
	"testing"

	"tranche/api"
	"tranche/integer"
)

// P1.1

func TestCheckAcceptsCanonicalIntegersOnly(t *testing.T) {
	for _, a := range edges() {
		if e := integer.Check(a); e != api.OK {
			t.Errorf("Check(%q) = %d", a, e)
		}
	}
	for a := range unusual() {
		if e := integer.Check(a); e != api.ErrArgument {
			t.Errorf("Check(%q) = %d", a, e)
		}
	}
	for _, a := range invalid() {
		if e := integer.Check(a); e != api.ErrArgument {
			t.Errorf("Check(%q) = %d", a, e)
		}
	}
}

func TestCanonicalKeepsTheValue(t *testing.T) {
	for _, a := range edges() {
		if got := integer.Canonical(a); got != a {
			t.Errorf("Canonical(%q) = %q", a, got)
		}
	}
	for a, want := range unusual() {
		if got := integer.Canonical(a); got != want {
			t.Errorf("Canonical(%q) = %q, want %q", a, got, want)
		}
	}
	for _, a := range invalid() {
		if got := integer.Canonical(a); got != "" {
			t.Errorf("Canonical(%q) = %q", a, got)
		}
	}
}

// TestOnlyValuesMatter replaces integers by others with the same values, in each place of each function.
func TestOnlyValuesMatter(t *testing.T) {
	same := unusual()
	for _, a := range invalid() {
		same[a] = ""
	}
	others := []api.Int{"", "1", "-1", "12", "-18", "1000000000", "-123456789012345678901234567890"}
	for a, c := range same {
		one(t, a, c)
		for _, b := range others {
			two(t, [2]api.Int{a, b}, [2]api.Int{c, b})
			two(t, [2]api.Int{b, a}, [2]api.Int{b, c})
		}
	}
}

// one compares the functions of one integer for a and for c.
func one(t *testing.T, a, c api.Int) {
	t.Helper()
	n, fits := integer.Small(a)
	m, fit := integer.Small(c)
	p, e := integer.Power(a, 3)
	q, f := integer.Power(c, 3)
	if n != m || fits != fit || integer.Neg(a) != integer.Neg(c) || p != q || e != f || integer.Print(a) != integer.Print(c) {
		t.Errorf("%q and %q have the same value", a, c)
	}
}

// two compares the functions of two integers for a and for c.
func two(t *testing.T, a, c [2]api.Int) {
	t.Helper()
	q, r, e := integer.Div(a[0], a[1])
	p, s, f := integer.Div(c[0], c[1])
	if q != p || r != s || e != f {
		t.Errorf("Div%q and Div%q differ", a, c)
	}
	if integer.Add(a[0], a[1]) != integer.Add(c[0], c[1]) || integer.Sub(a[0], a[1]) != integer.Sub(c[0], c[1]) ||
		integer.Mul(a[0], a[1]) != integer.Mul(c[0], c[1]) {
		t.Errorf("sums, differences or products of %q and %q differ", a, c)
	}
	if integer.Gcd(a[0], a[1]) != integer.Gcd(c[0], c[1]) || integer.Compare(a[0], a[1]) != integer.Compare(c[0], c[1]) {
		t.Errorf("divisors or order of %q and %q differ", a, c)
	}
}

func TestResultsAreExact(t *testing.T) {
	for _, a := range edges() {
		for _, b := range edges() {
			compareWithBig(t, a, b)
		}
	}
	s := newSource(1)
	for range 20000 {
		compareWithBig(t, s.next(7), s.next(5))
	}
}

// compareWithBig compares the functions of two integers, and Neg, with the library's arithmetic.
func compareWithBig(t *testing.T, a, b api.Int) {
	t.Helper()
	x, y := number(a), number(b)
	for _, c := range []struct {
		name string
		got  api.Int
		want *big.Int
	}{
		{"Neg", integer.Neg(a), new(big.Int).Neg(x)},
		{"Add", integer.Add(a, b), new(big.Int).Add(x, y)},
		{"Sub", integer.Sub(a, b), new(big.Int).Sub(x, y)},
		{"Mul", integer.Mul(a, b), new(big.Int).Mul(x, y)},
		{"Gcd", integer.Gcd(a, b), new(big.Int).GCD(nil, nil, new(big.Int).Abs(x), new(big.Int).Abs(y))},
	} {
		if c.got != canonical(c.want) {
			t.Fatalf("%s(%q, %q) = %q, want %v", c.name, a, b, c.got, c.want)
		}
	}
	if got := integer.Compare(a, b); got != x.Cmp(y) {
		t.Fatalf("Compare(%q, %q) = %d", a, b, got)
	}
	if y.Sign() == 0 {
		return
	}
	quotient, rest := new(big.Int).QuoRem(x, y, new(big.Int))
	if rest.Sign() != 0 && rest.Sign() != y.Sign() {
		quotient.Sub(quotient, big.NewInt(1))
		rest.Add(rest, y)
	}
	if q, r, e := integer.Div(a, b); q != canonical(quotient) || r != canonical(rest) || e != api.OK {
		t.Fatalf("Div(%q, %q) = %q, %q, %d, want %v, %v", a, b, q, r, e, quotient, rest)
	}
}

func TestLongIntegers(t *testing.T) {
	long := api.Int(strings.Repeat("9", 30000))
	next := api.Int("1" + strings.Repeat("0", 30000))
	if got := integer.Add(long, "1"); got != next {
		t.Error("the carry of a sum is lost")
	}
	if got := integer.Sub(next, "1"); got != long {
		t.Error("the borrow of a difference is lost")
	}
	square := api.Int(strings.Repeat("9", 4999) + "8" + strings.Repeat("0", 4999) + "1")
	root := api.Int(strings.Repeat("9", 5000))
	if got := integer.Mul(root, root); got != square {
		t.Error("a long product is wrong")
	}
	if q, r, e := integer.Div(square, root); q != root || r != "" || e != api.OK {
		t.Error("a long quotient is wrong")
	}
}

// P1.2

func TestRing(t *testing.T) {
	s := newSource(2)
	for range 5000 {
		a, b, c := s.next(4), s.next(4), s.next(4)
		if integer.Add(a, b) != integer.Add(b, a) || integer.Mul(a, b) != integer.Mul(b, a) {
			t.Fatalf("%q and %q do not commute", a, b)
		}
		if integer.Add(integer.Add(a, b), c) != integer.Add(a, integer.Add(b, c)) {
			t.Fatalf("the sum of %q, %q and %q depends on the order", a, b, c)
		}
		if integer.Mul(integer.Mul(a, b), c) != integer.Mul(a, integer.Mul(b, c)) {
			t.Fatalf("the product of %q, %q and %q depends on the order", a, b, c)
		}
		if integer.Mul(a, integer.Add(b, c)) != integer.Add(integer.Mul(a, b), integer.Mul(a, c)) {
			t.Fatalf("%q times the sum of %q and %q is not the sum of the products", a, b, c)
		}
		if integer.Sub(integer.Add(a, b), b) != a || integer.Add(integer.Sub(a, b), b) != a {
			t.Fatalf("Sub does not undo Add for %q and %q", a, b)
		}
	}
}

func TestNeutralElements(t *testing.T) {
	for _, a := range edges() {
		if integer.Add(a, "") != a || integer.Sub(a, "") != a || integer.Mul(a, "1") != a {
			t.Errorf("0 or 1 changes %q", a)
		}
		if integer.Sub(a, a) != "" || integer.Add(a, integer.Neg(a)) != "" || integer.Mul(a, "") != "" {
			t.Errorf("%q does not vanish", a)
		}
		if integer.Neg(a) != integer.Mul(a, "-1") || integer.Neg(integer.Neg(a)) != a {
			t.Errorf("Neg(%q) = %q", a, integer.Neg(a))
		}
	}
}

func TestCarries(t *testing.T) {
	for _, c := range []struct{ a, b, sum, product api.Int }{
		{"2", "3", "5", "6"},
		{"-2", "2", "", "-4"},
		{"-2", "-3", "-5", "6"},
		{"5", "-7", "-2", "-35"},
		{"999999999", "1", "1000000000", "999999999"},
		{"999999999", "999999999", "1999999998", "999999998000000001"},
		{"1000000000", "-1", "999999999", "-1000000000"},
		{"-1000000000000000000", "1", "-999999999999999999", "-1000000000000000000"},
		{"1000000000", "1000000000", "2000000000", "1000000000000000000"},
		{"100000000000000000000", "-99999999999999999999", "1", "-9999999999999999999900000000000000000000"},
		{"12345678901234567890", "98765432109876543210", "111111111011111111100", "1219326311370217952237463801111263526900"},
	} {
		if s, p := integer.Add(c.a, c.b), integer.Mul(c.a, c.b); s != c.sum || p != c.product {
			t.Errorf("%q and %q: sum %q, product %q", c.a, c.b, s, p)
		}
		if d := integer.Sub(c.sum, c.b); d != c.a {
			t.Errorf("Sub(%q, %q) = %q", c.sum, c.b, d)
		}
	}
}

// P1.3

func TestOrderIsTotal(t *testing.T) {
	all := edges()
	for _, a := range all {
		for _, b := range all {
			got := integer.Compare(a, b)
			if got != -integer.Compare(b, a) || (got == 0) != (a == b) || got < -1 || got > 1 {
				t.Fatalf("Compare(%q, %q) = %d", a, b, got)
			}
		}
	}
	s := newSource(3)
	for range 20000 {
		a, b, c := s.next(2), s.next(2), s.next(2)
		if integer.Compare(a, b) <= 0 && integer.Compare(b, c) <= 0 && integer.Compare(a, c) > 0 {
			t.Fatalf("%q, %q and %q are not in order", a, b, c)
		}
	}
}

func TestOrderIsKept(t *testing.T) {
	s := newSource(4)
	for range 5000 {
		a, b, c, p := s.next(3), s.next(3), s.next(3), s.positive(3)
		want := integer.Compare(a, b)
		if got := integer.Compare(integer.Add(a, c), integer.Add(b, c)); got != want {
			t.Fatalf("adding %q changes the order of %q and %q", c, a, b)
		}
		if got := integer.Compare(integer.Mul(a, p), integer.Mul(b, p)); got != want {
			t.Fatalf("multiplying with %q changes the order of %q and %q", p, a, b)
		}
		if got := integer.Compare(integer.Sub(a, b), ""); got != want {
			t.Fatalf("the difference of %q and %q has another sign than their order", a, b)
		}
	}
}

func TestCompare(t *testing.T) {
	for _, c := range []struct {
		a, b api.Int
		want int
	}{
		{"1", "2", -1}, {"2", "1", 1}, {"-1", "-2", 1}, {"-2", "-1", -1}, {"-1", "1", -1}, {"1", "-1", 1}, {"", "1", -1}, {"", "-1", 1},
		{"-1", "", -1}, {"1", "", 1}, {"10", "9", 1}, {"-10", "-9", -1}, {"-10", "9", -1}, {"0", "-0", 0}, {"-", "", 0}, {"007", "7", 0},
		{"7", "008", -1}, {"1x", "", 0}, {"9x", "1", -1}, {"1000000000", "999999999", 1}, {"1000000001", "2000000000", -1},
		{"100000000000000000000", "99999999999999999999", 1},
	} {
		if got := integer.Compare(c.a, c.b); got != c.want {
			t.Errorf("Compare(%q, %q) = %d, want %d", c.a, c.b, got, c.want)
		}
	}
}

// P1.4

func TestQuotientsAndRemainders(t *testing.T) {
	for _, c := range []struct{ a, b, quotient, rest api.Int }{
		{"7", "2", "3", "1"}, {"-7", "2", "-4", "1"}, {"7", "-2", "-4", "-1"}, {"-7", "-2", "3", "-1"},
		{"6", "3", "2", ""}, {"-6", "3", "-2", ""}, {"6", "-3", "-2", ""}, {"-6", "-3", "2", ""},
		{"", "5", "", ""}, {"", "-5", "", ""}, {"1", "5", "", "1"}, {"-1", "5", "-1", "4"}, {"1", "-5", "-1", "-4"}, {"-1", "-5", "", "-1"},
		{"5", "1", "5", ""}, {"5", "-1", "-5", ""}, {"-00", "03", "", ""}, {"1x", "3", "", ""}, {"007", "-002", "-4", "-1"},
		{"100000000000000000000", "3", "33333333333333333333", "1"},
		{"-100000000000000000000", "3", "-33333333333333333334", "2"},
		{"1000000000000000000000000000", "1000000000000000000", "1000000000", ""},
		{"999999999", "1000000000", "", "999999999"}, {"-999999999", "1000000000", "-1", "1"},
		{"999999999999999999", "1000000000", "999999999", "999999999"},
		{"-999999999999999999999999999", "1000000000000000000", "-1000000000", "1"},
		// The quotient is hard to guess from the first digits: the guess is too large by 1 or 2, or has a digit too many.
		{"1000000000000000000", "1000000001", "999999999", "1"},
		{"333333333000000000000000000", "333333333499999999", "999999998", "166666667999999998"},
		{"333333333000000000000000000", "500000000999999998", "666666664", "333333337333333328"},
		{"500000000000000000000000000", "500000000999999999", "999999998", "2999999998"},
		{"499999999999999999500000000", "500000000000000000", "999999999", "499999999500000000"},
	} {
		q, r, e := integer.Div(c.a, c.b)
		if q != c.quotient || r != c.rest || e != api.OK {
			t.Errorf("Div(%q, %q) = %q, %q, %d", c.a, c.b, q, r, e)
		}
	}
}

func TestDivisionByZero(t *testing.T) {
	for _, zero := range []api.Int{"", "0", "-", "-000", "1x", "+1"} {
		for _, a := range []api.Int{"", "7", "-123456789012345678901", "x"} {
			if q, r, e := integer.Div(a, zero); q != "" || r != "" || e != api.ErrDivide {
				t.Errorf("Div(%q, %q) = %q, %q, %d", a, zero, q, r, e)
			}
		}
	}
}

func TestDivisionLeadsBack(t *testing.T) {
	s := newSource(5)
	for range 10000 {
		a, b := s.next(6), s.next(4)
		if b == "" {
			continue
		}
		q, r, e := integer.Div(a, b)
		if e != api.OK || integer.Add(integer.Mul(q, b), r) != a {
			t.Fatalf("Div(%q, %q) = %q, %q, %d", a, b, q, r, e)
		}
		if integer.Compare(absolute(r), absolute(b)) >= 0 {
			t.Fatalf("Div(%q, %q) has the remainder %q", a, b, r)
		}
		if r != "" && (integer.Compare(r, "") != integer.Compare(b, "")) {
			t.Fatalf("Div(%q, %q) has the remainder %q, of another sign", a, b, r)
		}
		if q, r, e := integer.Div(integer.Mul(a, b), b); q != a || r != "" || e != api.OK {
			t.Fatalf("Div does not undo Mul for %q and %q: %q, %q, %d", a, b, q, r, e)
		}
	}
}

// absolute returns the absolute value of a canonical integer.
func absolute(a api.Int) api.Int {
	return api.Int(strings.TrimPrefix(string(a), "-"))
}

// P1.5

func TestGcd(t *testing.T) {
	for _, c := range []struct{ a, b, want api.Int }{
		{"-12", "18", "6"}, {"12", "-18", "6"}, {"-12", "-18", "6"}, {"18", "12", "6"}, {"", "", ""}, {"0", "-0", ""}, {"", "-5", "5"},
		{"-5", "", "5"}, {"5", "x", "5"}, {"17", "5", "1"}, {"1", "1", "1"}, {"7", "7", "7"}, {"7", "-7", "7"}, {"3", "9", "3"}, {"-9", "3", "3"},
		{"-000012", "00018", "6"}, {"1000000000000000000000", "1500000000000000000000", "500000000000000000000"},
		{"43466557686937456435688527675040625802564660517371780402481729089536555417949051890403879840079255169295922593080322634775209689623239873322471161642996440906533187938298969649928516003704476137795166849228875",
			"26863810024485359386146727202142923967616609318986952340123175997617981700247881689338369654483356564191827856161443356312976673642210350324634850410377680367334151172899169723197082763985615764450078474174626", "1"},
	} {
		if got := integer.Gcd(c.a, c.b); got != c.want {
			t.Errorf("Gcd(%q, %q) = %q", c.a, c.b, got)
		}
	}
}

func TestDivisors(t *testing.T) {
	s := newSource(6)
	for range 3000 {
		common := s.positive(2)
		a, b := integer.Mul(s.next(3), common), integer.Mul(s.next(3), common)
		gcd := integer.Gcd(a, b)
		if gcd == "" && (a != "" || b != "") || strings.HasPrefix(string(gcd), "-") || gcd != integer.Gcd(b, a) {
			t.Fatalf("Gcd(%q, %q) = %q", a, b, gcd)
		}
		if !divides(gcd, a) || !divides(gcd, b) || !divides(common, gcd) {
			t.Fatalf("Gcd(%q, %q) = %q, with the divisor %q", a, b, gcd, common)
		}
		if x, y := multiples(a, b); absolute(integer.Add(integer.Mul(x, a), integer.Mul(y, b))) != gcd {
			t.Fatalf("Gcd(%q, %q) = %q is not the sum of %q and %q times them", a, b, gcd, x, y)
		}
	}
}

// divides returns whether b is a multiple of a.
func divides(a, b api.Int) bool {
	if a == "" {
		return b == ""
	}
	_, r, e := integer.Div(b, a)
	return e == api.OK && r == ""
}

// multiples returns x and y such that x * a + y * b is the greatest common divisor or its opposite.
func multiples(a, b api.Int) (api.Int, api.Int) {
	x, y, nextX, nextY := api.Int("1"), api.Int(""), api.Int(""), api.Int("1")
	for b != "" {
		q, r, _ := integer.Div(a, b)
		a, b = b, r
		x, nextX = nextX, integer.Sub(x, integer.Mul(q, nextX))
		y, nextY = nextY, integer.Sub(y, integer.Mul(q, nextY))
	}
	return x, y
}

// P1.6

func TestPower(t *testing.T) {
	for _, c := range []struct {
		a    api.Int
		n    int
		want api.Int
		e    api.Errno
	}{
		{"2", 64, "18446744073709551616", api.OK}, {"-3", 3, "-27", api.OK}, {"-3", 4, "81", api.OK}, {"-3", 1, "-3", api.OK},
		{"x", 0, "1", api.OK}, {"", 0, "1", api.OK}, {"", 1, "", api.OK}, {"", 5, "", api.OK}, {"5", 0, "1", api.OK}, {"-5", 0, "1", api.OK},
		{"-007", 2, "49", api.OK}, {"1", 400, "1", api.OK}, {"-1", 399, "-1", api.OK}, {"-1", 400, "1", api.OK},
		{"10", 400, api.Int("1" + strings.Repeat("0", 400)), api.OK}, {"-10", 399, api.Int("-1" + strings.Repeat("0", 399)), api.OK},
		{"2", -1, "", api.ErrRange}, {"1", -1, "", api.ErrRange}, {"", -1, "", api.ErrRange}, {"2", 401, "", api.ErrRange}, {"", 401, "", api.ErrRange},
		{"2", math.MaxInt, "", api.ErrRange}, {"2", math.MinInt, "", api.ErrRange}, {"x", 1 << 32, "", api.ErrRange},
	} {
		if p, e := integer.Power(c.a, c.n); p != c.want || e != c.e {
			t.Errorf("Power(%q, %d) = %q, %d", c.a, c.n, p, e)
		}
	}
}

func TestPowersAreRepeatedProducts(t *testing.T) {
	for _, a := range []api.Int{"", "1", "-1", "2", "-7", "999999999", "-1000000000000000001"} {
		want := api.Int("1")
		for n := range 401 {
			if p, e := integer.Power(a, n); p != want || e != api.OK {
				t.Fatalf("Power(%q, %d) = %q, %d", a, n, p, e)
			}
			want = integer.Mul(want, a)
		}
	}
}

func TestLawsOfPowers(t *testing.T) {
	s := newSource(7)
	for range 500 {
		a, b, n, m := s.next(3), s.next(3), s.Intn(40), s.Intn(40)
		if integer.Mul(power(t, a, n), power(t, a, m)) != power(t, a, n+m) {
			t.Fatalf("the exponents %d and %d of %q do not add up", n, m, a)
		}
		if integer.Mul(power(t, a, n), power(t, b, n)) != power(t, integer.Mul(a, b), n) {
			t.Fatalf("the power %d of the product of %q and %q is not that of the powers", n, a, b)
		}
	}
}

// power returns a power that must exist.
func power(t *testing.T, a api.Int, n int) api.Int {
	t.Helper()
	p, e := integer.Power(a, n)
	if e != api.OK {
		t.Fatalf("Power(%q, %d): %d", a, n, e)
	}
	return p
}

// P1.7

func TestPrintAndParse(t *testing.T) {
	s := newSource(8)
	all := edges()
	for range 2000 {
		all = append(all, s.next(8))
	}
	for _, a := range all {
		text := integer.Print(a)
		if text != number(a).String() {
			t.Fatalf("Print(%q) = %q", a, text)
		}
		if got, e := integer.Parse(text); got != a || e != api.OK {
			t.Fatalf("Parse(%q) = %q, %d", text, got, e)
		}
	}
}

func TestPrintOfUnusualIntegers(t *testing.T) {
	for a, c := range unusual() {
		if got := integer.Print(a); got != number(c).String() {
			t.Errorf("Print(%q) = %q", a, got)
		}
	}
	for _, a := range invalid() {
		if got := integer.Print(a); got != "0" {
			t.Errorf("Print(%q) = %q", a, got)
		}
	}
}

func TestParseAcceptsTextsOnly(t *testing.T) {
	refused := []string{"", "-", "-0", "00", "01", "-01", "-00", "012", "0x", "0-"}
	for a := range unusual() {
		if a != "0" {
			refused = append(refused, string(a))
		}
	}
	for _, a := range invalid() {
		refused = append(refused, string(a))
	}
	for _, s := range refused {
		if a, e := integer.Parse(s); a != "" || e != api.ErrSyntax {
			t.Errorf("Parse(%q) = %q, %d", s, a, e)
		}
	}
	for s, want := range map[string]api.Int{"0": "", "1": "1", "-1": "-1", "9": "9", "10": "10", "-12": "-12", "100000000000": "100000000000"} {
		if a, e := integer.Parse(s); a != want || e != api.OK {
			t.Errorf("Parse(%q) = %q, %d", s, a, e)
		}
	}
}

// TestEveryShortText compares Parse with Print for all strings of up to 4 characters.
func TestEveryShortText(t *testing.T) {
	texts := []string{""}
	for range 4 {
		for _, s := range texts {
			for _, c := range "-0129x" {
				texts = append(texts, s+string(c))
			}
		}
		texts = unique(texts)
	}
	for _, s := range texts {
		a, e := integer.Parse(s)
		isText := number(api.Int(s)).String() == s
		if isText && (e != api.OK || integer.Print(a) != s) || !isText && (e != api.ErrSyntax || a != "") {
			t.Errorf("Parse(%q) = %q, %d", s, a, e)
		}
	}
}

// unique returns the texts, each of them once.
func unique(texts []string) []string {
	slices.Sort(texts)
	return slices.Compact(texts)
}

func TestParseLimit(t *testing.T) {
	full := strings.Repeat("7", api.MaxText)
	if a, e := integer.Parse(full); string(a) != full || e != api.OK {
		t.Errorf("a text of MaxText bytes: %d", e)
	}
	full = "-" + full[1:]
	if a, e := integer.Parse(full); string(a) != full || e != api.OK {
		t.Errorf("a negative text of MaxText bytes: %d", e)
	}
	if a, e := integer.Parse(full[1:] + "x"); a != "" || e != api.ErrSyntax {
		t.Errorf("MaxText bytes that are no text: %d", e)
	}
	for _, s := range []string{full + "7", strings.Repeat("0", api.MaxText+1), strings.Repeat("x", api.MaxText+1), strings.Repeat("-", 3*api.MaxText)} {
		if a, e := integer.Parse(s); a != "" || e != api.ErrLimit {
			t.Errorf("a text of %d bytes: %d", len(s), e)
		}
	}
}

// P1.8

func TestSmall(t *testing.T) {
	for _, c := range []struct {
		a    api.Int
		n    int
		fits bool
	}{
		{"", 0, true}, {"0", 0, true}, {"-", 0, true}, {"x", 0, true}, {"9x", 0, true}, {"007", 7, true}, {"-007", -7, true}, {"1000000000", 1000000000, true},
		{"9223372036854775806", math.MaxInt - 1, true}, {"9223372036854775807", math.MaxInt, true}, {"9223372036854775808", 0, false},
		{"-9223372036854775807", -math.MaxInt, true}, {"-9223372036854775808", math.MinInt, true}, {"-9223372036854775809", 0, false},
		{"00009223372036854775807", math.MaxInt, true}, {"-00009223372036854775808", math.MinInt, true}, {"10000000000000000000", 0, false},
		{"18446744073709551615", 0, false}, {"18446744073709551616", 0, false}, {"18446744073709551617", 0, false}, {"-18446744073709551617", 0, false},
		{"99999999999999999999999999999999999999999", 0, false},
	} {
		if n, fits := integer.Small(c.a); n != c.n || fits != c.fits {
			t.Errorf("Small(%q) = %d, %t", c.a, n, fits)
		}
	}
}

func TestOfAndSmallAreInverse(t *testing.T) {
	for _, n := range machineIntegers() {
		a := integer.Of(n)
		if a != canonical(big.NewInt(int64(n))) {
			t.Errorf("Of(%d) = %q", n, a)
		}
		if got, fits := integer.Small(a); got != n || !fits {
			t.Errorf("Small(Of(%d)) = %d, %t", n, got, fits)
		}
	}
	for _, a := range edges() {
		if n, fits := integer.Small(a); fits != number(a).IsInt64() || fits && integer.Of(n) != a || !fits && n != 0 {
			t.Errorf("Small(%q) = %d, %t", a, n, fits)
		}
	}
}

func TestMachineArithmetic(t *testing.T) {
	var inner []int
	for _, n := range machineIntegers() {
		if -math.MaxInt32 <= n && n <= math.MaxInt32 {
			inner = append(inner, n)
		}
	}
	for _, n := range inner {
		for _, m := range inner {
			a, b := integer.Of(n), integer.Of(m)
			if integer.Add(a, b) != integer.Of(n+m) || integer.Sub(a, b) != integer.Of(n-m) || integer.Mul(a, b) != integer.Of(n*m) {
				t.Fatalf("sum, difference or product of %d and %d", n, m)
			}
			if integer.Compare(a, b) != cmp.Compare(n, m) || integer.Neg(a) != integer.Of(-n) {
				t.Fatalf("order of %d and %d, or opposite", n, m)
			}
			if m == 0 {
				continue
			}
			quotient, rest := n/m, n%m
			if rest != 0 && (rest < 0) != (m < 0) {
				quotient, rest = quotient-1, rest+m
			}
			if q, r, e := integer.Div(a, b); q != integer.Of(quotient) || r != integer.Of(rest) || e != api.OK {
				t.Fatalf("Div(%d, %d) = %q, %q, %d", n, m, q, r, e)
			}
		}
	}
}

// machineIntegers returns small and large ints, and those at the limits.
func machineIntegers() []int {
	s := newSource(9)
	all := []int{math.MinInt, math.MinInt + 1, math.MaxInt, math.MaxInt - 1, math.MinInt32, math.MaxInt32, math.MaxInt32 + 1}
	for n := -12; n <= 12; n++ {
		all = append(all, n)
	}
	for p := 10; p < math.MaxInt/10; p *= 10 {
		all = append(all, p-1, p, p+1, 1-p, -p, -1-p)
	}
	for range 200 {
		n := int(s.Uint64()) >> s.Intn(64)
		all = append(all, n)
	}
	return all
}

// R3 and R5: the same arguments lead to the same results, however often they are used.

func TestResultsDependOnArgumentsOnly(t *testing.T) {
	a, b := api.Int("-987654321098765432109876543210"), api.Int("123456789012345678901")
	q, r, _ := integer.Div(a, b)
	sum, product, gcd := integer.Add(a, b), integer.Mul(a, b), integer.Gcd(a, b)
	for range 100 {
		p, s, e := integer.Div(a, b)
		if p != q || s != r || e != api.OK || integer.Add(a, b) != sum || integer.Mul(a, b) != product || integer.Gcd(a, b) != gcd {
			t.Fatal("results change")
		}
	}
}
