package allocate_test

import (
	"math"
	"math/big"
	"slices"
	"testing"

	"tranche/allocate"
	"tranche/api"
)

// P4.1

// example is a total, the weights by which it is divided, and the parts.
type example struct {
	total         api.Int
	weights, want string
}

// expectExamples tests a function that divides by weights.
func expectExamples(t *testing.T, divide divider, examples []example) {
	t.Helper()
	for _, c := range examples {
		got, e := divide(c.total, ints(c.weights))
		if !slices.Equal(got, ints(c.want)) || e != api.OK {
			t.Errorf("%q by %s: %q, %d", c.total, c.weights, got, e)
		}
	}
}

func TestSplit(t *testing.T) {
	expectExamples(t, allocate.Split, []example{
		{"100", "1 1 1", "34 33 33"}, {"-7", "1 0 2", "-2 0 -5"}, {"7", "1 0 2", "2 0 5"}, {"-100", "1 1 1", "-34 -33 -33"},
		{"", "1 2 3", "0 0 0"}, {"", "0 1", "0 0"}, {"5", "3", "5"}, {"-5", "3", "-5"}, {"5", "0 3 0", "0 5 0"}, {"12", "1 2 3", "2 4 6"}, {"-12", "1 2 3", "-2 -4 -6"},
		{"1", "1 1 1", "1 0 0"}, {"2", "1 1 1", "1 1 0"}, {"-1", "1 1 1", "-1 0 0"}, {"-2", "1 1 1", "-1 -1 0"}, {"1", "0 1 1", "0 1 0"}, {"1", "1 2 2", "0 1 0"}, {"1", "1 3", "0 1"},
		{"10", "1 2 4", "1 3 6"}, {"10", "4 2 1", "6 3 1"}, {"10", "3 3 1 7", "2 2 1 5"}, {"5", "1 1 2 2", "1 1 2 1"}, {"-5", "2 1 2 1", "-2 -1 -1 -1"}, {"3", "9 9 9 9 9", "1 1 1 0 0"}, {"11", "5 5 1", "5 5 1"},
		{"1000000000000000000000000000001", "1 1", "500000000000000000000000000001 500000000000000000000000000000"},
		{"10", "1000000000000000000000000000000 2000000000000000000000000000000", "3 7"},
		{"10", "1000000000000000000000000000001 1000000000000000000000000000000 1000000000000000000000000000000", "4 3 3"},
		{"10", "1000000000000000000000000000000 1000000000000000000000000000000 1000000000000000000000000000001", "3 3 4"},
	})
}

func TestRunning(t *testing.T) {
	expectExamples(t, allocate.Running, []example{
		{"100", "1 1 1", "33 33 34"}, {"-100", "1 1 1", "-34 -33 -33"}, {"", "1 2", "0 0"}, {"5", "3", "5"}, {"-5", "3", "-5"}, {"5", "0 3 0", "0 5 0"}, {"-5", "0 3 0", "0 -5 0"},
		{"1", "1 1 1", "0 0 1"}, {"-1", "1 1 1", "-1 0 0"}, {"1", "1 1 0", "0 1 0"}, {"5", "1 1 1", "1 2 2"}, {"-7", "1 0 2", "-3 0 -4"}, {"7", "1 0 2", "2 0 5"}, {"12", "1 2 3", "2 4 6"},
		{"39", "13 12 225", "2 1 36"}, {"3", "1 1 1 1 1", "0 1 0 1 1"}, {"-3", "1 1 1 1 1", "-1 -1 0 -1 0"},
		{"1000000000000000000000000000001", "1 1", "500000000000000000000000000000 500000000000000000000000000001"},
	})
}

func TestIdeal(t *testing.T) {
	for _, c := range []struct {
		total   api.Int
		weights string
		want    []api.Frac
	}{
		{"100", "1 1 1", []api.Frac{frac("100", "3"), frac("100", "3"), frac("100", "3")}}, {"-7", "1 0 2", []api.Frac{frac("-7", "3"), {}, frac("-14", "3")}}, {"", "1 2", []api.Frac{{}, {}}},
		{"12", "1 2 3", []api.Frac{frac("2", ""), frac("4", ""), frac("6", "")}}, {"5", "7", []api.Frac{frac("5", "")}}, {"10", "3 1", []api.Frac{frac("15", "2"), frac("5", "2")}},
		{"1", "1 99999999999999999999", []api.Frac{frac("1", "100000000000000000000"), frac("99999999999999999999", "100000000000000000000")}},
	} {
		got, e := allocate.Ideal(c.total, ints(c.weights))
		if !slices.Equal(got, c.want) || e != api.OK {
			t.Errorf("Ideal(%q, %s) = %q, %d", c.total, c.weights, got, e)
		}
	}
}

func TestFractions(t *testing.T) {
	third := frac("1", "3")
	for _, c := range []struct {
		total api.Int
		l     []api.Frac
		want  string
	}{
		{"100", []api.Frac{third, third, third}, "34 33 33"}, {"-7", []api.Frac{third, {}, frac("2", "3")}, "-2 0 -5"}, {"5", []api.Frac{frac("1", "")}, "5"}, {"", []api.Frac{{}, frac("1", "")}, "0 0"},
		{"10", []api.Frac{frac("1", "2"), third, frac("1", "6")}, "5 3 2"}, {"1", []api.Frac{frac("1", "6"), third, frac("1", "2")}, "0 0 1"}, {"-3", []api.Frac{frac("1", "4"), frac("1", "4"), frac("1", "2")}, "-1 -1 -1"},
		{"2", []api.Frac{frac("1", "12"), frac("1", "18"), frac("31", "36")}, "0 0 2"}, {"18", []api.Frac{frac("1", "12"), frac("1", "18"), frac("31", "36")}, "2 1 15"},
		{"10", []api.Frac{frac("1", "1000000000000000000000"), frac("999999999999999999999", "1000000000000000000000")}, "0 10"},
	} {
		got, e := allocate.Fractions(c.total, c.l)
		if !slices.Equal(got, ints(c.want)) || e != api.OK {
			t.Errorf("Fractions(%q, %q) = %q, %d", c.total, c.l, got, e)
		}
	}
}

func TestEven(t *testing.T) {
	for _, c := range []struct {
		total api.Int
		n     int
		want  string
	}{
		{"100", 3, "34 33 33"}, {"-100", 3, "-34 -33 -33"}, {"5", 1, "5"}, {"", 3, "0 0 0"}, {"2", 4, "1 1 0 0"}, {"-2", 4, "-1 -1 0 0"}, {"8", 4, "2 2 2 2"},
		{"1000000000000000000000", 3, "333333333333333333334 333333333333333333333 333333333333333333333"},
	} {
		got, e := allocate.Even(c.total, c.n)
		if !slices.Equal(got, ints(c.want)) || e != api.OK {
			t.Errorf("Even(%q, %d) = %q, %d", c.total, c.n, got, e)
		}
	}
}

func TestShare(t *testing.T) {
	for _, c := range []struct {
		total, part, whole, share, rest api.Int
	}{
		{"5", "1", "2", "2", "3"}, {"7", "1", "2", "4", "3"}, {"-5", "1", "2", "-2", "-3"}, {"-7", "1", "2", "-4", "-3"}, {"5", "", "2", "", "5"}, {"5", "2", "2", "5", ""}, {"", "1", "3", "", ""},
		{"10", "1", "3", "3", "7"}, {"10", "2", "3", "7", "3"}, {"-10", "2", "3", "-7", "-3"}, {"1", "1", "2", "", "1"}, {"3", "1", "2", "2", "1"}, {"-1", "1", "2", "", "-1"}, {"-1", "1", "1", "-1", ""},
		{"1", "500000000000000000001", "1000000000000000000000", "1", ""}, {"1", "499999999999999999999", "1000000000000000000000", "", "1"},
		{"2000000000000000000000000000001", "1", "2", "1000000000000000000000000000000", "1000000000000000000000000000001"},
	} {
		share, rest, e := allocate.Share(c.total, c.part, c.whole)
		if share != c.share || rest != c.rest || e != api.OK {
			t.Errorf("Share(%q, %q, %q) = %q, %q, %d", c.total, c.part, c.whole, share, rest, e)
		}
	}
}

// TestEverySmallDivision compares with the definitions for all small totals and short lists of weights.
func TestEverySmallDivision(t *testing.T) {
	for _, weights := range smallWeights(4, 4) {
		for total := int64(-9); total <= 9; total++ {
			compareWithDefinitions(t, big.NewInt(total), weights)
		}
	}
}

// smallWeights returns all lists of up to most weights that are less than bound.
func smallWeights(most int, bound int64) [][]*big.Int {
	all, last := [][]*big.Int{}, [][]*big.Int{{}}
	for range most {
		var longer [][]*big.Int
		for _, l := range last {
			for w := range bound {
				longer = append(longer, append(slices.Clone(l), big.NewInt(w)))
			}
		}
		all, last = append(all, longer...), longer
	}
	return slices.DeleteFunc(all, func(l []*big.Int) bool { return sum(l).Sign() == 0 })
}

func TestDivisionsAreExact(t *testing.T) {
	s := newSource(1)
	for range 1500 {
		compareWithDefinitions(t, s.total(), s.weights(12))
	}
	compareWithDefinitions(t, s.total(), s.weights(100))
}

// TestManyEqualWeights divides by so many equal weights that the order of equal remainders must be looked after.
func TestManyEqualWeights(t *testing.T) {
	weights := numbers(slices.Repeat(ints("3 1 0 2 3"), 40))
	for _, total := range []int64{1, 7, 59, 100, -100, 161, 319, -357, 1234567} {
		compareWithDefinitions(t, big.NewInt(total), weights)
		compareWithDefinitions(t, big.NewInt(total), numbers(times(150, api.Int("7"))))
	}
}

// compareWithDefinitions compares the functions with weights with the definitions of their results.
func compareWithDefinitions(t *testing.T, total *big.Int, weights []*big.Int) {
	t.Helper()
	want := wholes(division(total, weights))
	compareParts(t, "Split", total, weights, want)(allocate.Split(whole(total), wholes(weights)))
	compareParts(t, "Fractions", total, weights, want)(allocate.Fractions(whole(total), fractions(weights)))
	compareParts(t, "Running", total, weights, wholes(running(total, weights)))(allocate.Running(whole(total), wholes(weights)))
	var ideals []api.Frac
	for _, ideal := range idealParts(total, weights) {
		ideals = append(ideals, canonical(ideal))
	}
	compareParts(t, "Ideal", total, weights, ideals)(allocate.Ideal(whole(total), wholes(weights)))
}

// compareParts returns a function that compares the results of the function with this name with want.
func compareParts[T comparable](t *testing.T, name string, total *big.Int, weights []*big.Int, want []T) func([]T, api.Errno) {
	return func(got []T, e api.Errno) {
		t.Helper()
		if !slices.Equal(got, want) || e != api.OK {
			t.Fatalf("%s of %v by %v: %v, %d, want %v", name, total, weights, got, e, want)
		}
	}
}

func TestEvenIsSplitByOnes(t *testing.T) {
	s := newSource(2)
	for _, n := range []int{1, 2, 3, 7, 10, 64, 999, api.MaxWeights} {
		for _, total := range []api.Int{"", "1", "-1", whole(s.total()), whole(s.total())} {
			want, _ := allocate.Split(total, times(n, api.Int("1")))
			got, e := allocate.Even(total, n)
			if !slices.Equal(got, want) || len(got) != n || e != api.OK {
				t.Fatalf("Even(%q, %d): %d parts, %d", total, n, len(got), e)
			}
		}
	}
}

func TestShareIsExact(t *testing.T) {
	s := newSource(3)
	half := big.NewRat(1, 2)
	for range 3000 {
		total, part, all := s.share()
		share, rest, e := allocate.Share(whole(total), whole(part), whole(all))
		exact := product(total, part, all)
		off := distance(exact, number(share)).Cmp(half)
		if e != api.OK || off > 0 || off == 0 && number(share).Bit(0) == 1 || new(big.Int).Add(number(share), number(rest)).Cmp(total) != 0 {
			t.Fatalf("Share(%v, %v, %v) = %q, %q, %d", total, part, all, share, rest, e)
		}
	}
}

// share returns a total, and a part of a whole that is often such that the share is between two integers.
func (s source) share() (total, part, all *big.Int) {
	total, part = s.total(), s.amount()
	switch s.Intn(3) {
	case 0:
		all = new(big.Int).Lsh(part, 1)
	case 1:
		part = big.NewInt(s.Int63n(20))
		all = big.NewInt(20)
	default:
		all = new(big.Int).Add(part, s.amount())
	}
	if all.Sign() == 0 {
		all.SetInt64(1)
	}
	return total, part, all
}

// TestCheckOfAllParts compares Check with its definition for all small divisions.
func TestCheckOfAllParts(t *testing.T) {
	for _, weights := range smallWeights(3, 3) {
		for total := int64(-4); total <= 4; total++ {
			ideals := idealParts(big.NewInt(total), weights)
			for _, parts := range signedLists(len(weights), 5) {
				want := api.OK
				if sum(parts).Cmp(big.NewInt(total)) != 0 {
					want = api.ErrBalance
				} else if !areNear(parts, ideals) {
					want = api.ErrRange
				}
				if e := allocate.Check(whole(big.NewInt(total)), wholes(weights), wholes(parts)); e != want {
					t.Fatalf("Check(%d, %v, %v) = %d, want %d", total, weights, parts, e, want)
				}
			}
		}
	}
}

// signedLists returns all lists with a length of numbers from -bound to bound.
func signedLists(length int, bound int64) [][]*big.Int {
	if length == 0 {
		return [][]*big.Int{{}}
	}
	var all [][]*big.Int
	for _, l := range signedLists(length-1, bound) {
		for n := -bound; n <= bound; n++ {
			all = append(all, append(slices.Clone(l), big.NewInt(n)))
		}
	}
	return all
}

// TestErrorsOfWeights tests the errors of all functions with weights, and which one is the first.
func TestErrorsOfWeights(t *testing.T) {
	long := times(api.MaxWeights+1, api.Int("1"))
	for _, c := range []struct {
		total   api.Int
		weights []api.Int
		want    api.Errno
	}{
		{"5", nil, api.ErrEmpty}, {"5", []api.Int{}, api.ErrEmpty}, {"", nil, api.ErrEmpty}, {"05", nil, api.ErrEmpty}, {"x", nil, api.ErrEmpty},
		{"5", long, api.ErrLimit}, {"05", long, api.ErrLimit}, {"5", times(api.MaxWeights+1, api.Int("-1")), api.ErrLimit}, {"5", times(2000, api.Int("x")), api.ErrLimit}, {"5", make([]api.Int, 1001), api.ErrLimit},
		{"05", ints("1 2"), api.ErrArgument}, {"-0", ints("1 2"), api.ErrArgument}, {"0", ints("1 2"), api.ErrArgument}, {"-", ints("1 2"), api.ErrArgument}, {"x", ints("1 2"), api.ErrArgument}, {"\xff", ints("1"), api.ErrArgument},
		{"+5", ints("1"), api.ErrArgument}, {" 5", ints("1"), api.ErrArgument}, {"5.0", ints("1"), api.ErrArgument}, {"1/2", ints("1"), api.ErrArgument}, {"-05", ints("1"), api.ErrArgument},
		{"5", ints("1 -2 3"), api.ErrArgument}, {"5", ints("-1"), api.ErrArgument}, {"5", ints("2 -2"), api.ErrArgument}, {"5", ints("-99999999999999999999 1"), api.ErrArgument},
		{"5", ints("1 02"), api.ErrArgument}, {"5", []api.Int{"0"}, api.ErrArgument}, {"5", []api.Int{"1", "0"}, api.ErrArgument}, {"5", ints("x 1"), api.ErrArgument}, {"5", ints("1 +2"), api.ErrArgument}, {"5", ints("1 \x00"), api.ErrArgument},
		{"5", []api.Int{"", "-0"}, api.ErrArgument}, {"05", ints("0 0"), api.ErrArgument}, {"x", ints("0"), api.ErrArgument}, {"5", append(times(999, api.Int("1")), "-1"), api.ErrArgument},
		{"5", ints("0"), api.ErrDivide}, {"5", ints("0 0 0"), api.ErrDivide}, {"", ints("0"), api.ErrDivide}, {"-5", make([]api.Int, api.MaxWeights), api.ErrDivide},
	} {
		expectWeightsError(t, c.total, c.weights, c.want)
	}
}

// expectWeightsError tests that all functions with weights return an error, and nothing else.
func expectWeightsError(t *testing.T, total api.Int, weights []api.Int, want api.Errno) {
	t.Helper()
	if got, e := allocate.Split(total, weights); len(got) != 0 || e != want {
		t.Errorf("Split(%q, %.9q) = %q, %d, want %d", total, weights, got, e, want)
	}
	if got, e := allocate.Ideal(total, weights); len(got) != 0 || e != want {
		t.Errorf("Ideal(%q, %.9q) = %q, %d, want %d", total, weights, got, e, want)
	}
	if got, e := allocate.Running(total, weights); len(got) != 0 || e != want {
		t.Errorf("Running(%q, %.9q) = %q, %d, want %d", total, weights, got, e, want)
	}
	// The errors of weights are the first ones of Check, whatever the parts are.
	for _, parts := range [][]api.Int{nil, weights, ints("1"), ints("x 02 7")} {
		if e := allocate.Check(total, weights, parts); e != want {
			t.Errorf("Check(%q, %.9q, %.9q) = %d, want %d", total, weights, parts, e, want)
		}
	}
}

func TestAsManyWeightsAsAllowed(t *testing.T) {
	s := newSource(4)
	var weights []*big.Int
	for range api.MaxWeights {
		weights = append(weights, s.amount())
	}
	total := whole(number("123456789012345678901234567890"))
	split, e := allocate.Split(total, wholes(weights))
	if len(split) != api.MaxWeights || e != api.OK {
		t.Fatalf("Split by MaxWeights weights: %d parts, %d", len(split), e)
	}
	running, e := allocate.Running(total, wholes(weights))
	if len(running) != api.MaxWeights || e != api.OK {
		t.Fatalf("Running with MaxWeights weights: %d parts, %d", len(running), e)
	}
	for _, parts := range [][]api.Int{split, running} {
		if e := allocate.Check(total, wholes(weights), parts); e != api.OK {
			t.Errorf("Check of MaxWeights parts: %d", e)
		}
	}
	if ideal, e := allocate.Ideal(total, wholes(weights)); len(ideal) != api.MaxWeights || e != api.OK {
		t.Errorf("Ideal of MaxWeights weights: %d parts, %d", len(ideal), e)
	}
	if got, e := allocate.Fractions(total, fractions(weights)); !slices.Equal(got, split) || e != api.OK {
		t.Errorf("MaxWeights fractions: %d parts, %d", len(got), e)
	}
}

func TestErrorsOfCheck(t *testing.T) {
	for _, c := range []struct {
		total          api.Int
		weights, parts string
		want           api.Errno
	}{
		{"100", "1 1 1", "34 33 33", api.OK}, {"100", "1 1 1", "33 34 33", api.OK}, {"100", "1 1 1", "33 33 34", api.OK}, {"-7", "1 0 2", "-3 0 -4", api.OK}, {"", "1 2", "0 0", api.OK}, {"5", "1", "5", api.OK},
		{"100", "1 1 1", "", api.ErrMismatch}, {"100", "1 1 1", "50 50", api.ErrMismatch}, {"100", "1 1 1", "34 33 33 0", api.ErrMismatch}, {"100", "1 1 1", "x 050", api.ErrMismatch}, {"100", "1", "x y", api.ErrMismatch},
		{"100", "1 1 1", "034 33 33", api.ErrArgument}, {"100", "1 1 1", "34 33 x", api.ErrArgument}, {"100", "1 1 1", "1 1 -0", api.ErrArgument}, {"100", "1 1 1", "100 00 -", api.ErrArgument}, {"5", "1", "+5", api.ErrArgument},
		{"100", "1 1 1", "33 33 33", api.ErrBalance}, {"100", "1 1 1", "34 34 33", api.ErrBalance}, {"100", "1 1 1", "100 100 100", api.ErrBalance}, {"-7", "1 0 2", "2 0 5", api.ErrBalance}, {"", "1", "1", api.ErrBalance}, {"5", "1 1", "0 0", api.ErrBalance},
		{"100", "1 1 1", "35 32 33", api.ErrRange}, {"100", "1 1 1", "34 34 32", api.ErrRange}, {"100", "1 1 1", "100 0 0", api.ErrRange}, {"4", "1 1", "3 1", api.ErrRange}, {"4", "1 1", "1 3", api.ErrRange}, {"", "1 2", "1 -1", api.ErrRange},
		{"7", "1 0 2", "2 1 4", api.ErrRange}, {"7", "1 0 2", "3 -1 5", api.ErrRange}, {"-7", "1 0 2", "-1 0 -6", api.ErrRange}, {"5", "1 1", "2 3", api.OK}, {"5", "1 1", "3 2", api.OK}, {"5", "1 1", "4 1", api.ErrRange},
	} {
		if e := allocate.Check(c.total, ints(c.weights), ints(c.parts)); e != c.want {
			t.Errorf("Check(%q, %s, %s) = %d, want %d", c.total, c.weights, c.parts, e, c.want)
		}
	}
	if e := allocate.Check("", ints("1 2"), []api.Int{"0", ""}); e != api.ErrArgument {
		t.Errorf("a part that is not canonical, with the value 0: %d", e)
	}
}

func TestErrorsOfEven(t *testing.T) {
	for _, n := range []int{0, -1, 1001, 1 << 32, 1<<32 + 1, math.MaxInt, math.MinInt} {
		for _, total := range []api.Int{"", "5", "05", "x"} {
			if got, e := allocate.Even(total, n); len(got) != 0 || e != api.ErrRange {
				t.Errorf("Even(%q, %d) = %.9q, %d", total, n, got, e)
			}
		}
	}
	for _, n := range []int{1, 3, 1000} {
		for _, total := range []api.Int{"0", "05", "-0", "-", "x", "5 ", "\xff"} {
			if got, e := allocate.Even(total, n); len(got) != 0 || e != api.ErrArgument {
				t.Errorf("Even(%q, %d) = %.9q, %d", total, n, got, e)
			}
		}
	}
}

func TestErrorsOfShare(t *testing.T) {
	for _, c := range []struct {
		total, part, whole api.Int
		want               api.Errno
	}{
		{"05", "1", "2", api.ErrArgument}, {"5", "01", "2", api.ErrArgument}, {"5", "1", "02", api.ErrArgument}, {"x", "1", "2", api.ErrArgument}, {"5", "x", "2", api.ErrArgument}, {"5", "1", "x", api.ErrArgument},
		{"0", "1", "2", api.ErrArgument}, {"5", "0", "2", api.ErrArgument}, {"5", "1", "0", api.ErrArgument}, {"-0", "1", "", api.ErrArgument}, {"5", "-0", "-2", api.ErrArgument}, {"5", "03", "2", api.ErrArgument}, {"5", "-", "", api.ErrArgument},
		{"5", "1", "", api.ErrDivide}, {"5", "", "", api.ErrDivide}, {"", "", "", api.ErrDivide}, {"5", "-1", "", api.ErrDivide},
		{"5", "1", "-2", api.ErrRange}, {"5", "-1", "-2", api.ErrRange}, {"5", "", "-2", api.ErrRange}, {"5", "-2", "-2", api.ErrRange}, {"5", "3", "2", api.ErrRange}, {"5", "-1", "2", api.ErrRange}, {"", "3", "2", api.ErrRange},
		{"-5", "100000000000000000000", "99999999999999999999", api.ErrRange}, {"-5", "-100000000000000000000", "99999999999999999999", api.ErrRange},
	} {
		if share, rest, e := allocate.Share(c.total, c.part, c.whole); share != "" || rest != "" || e != c.want {
			t.Errorf("Share(%q, %q, %q) = %q, %q, %d, want %d", c.total, c.part, c.whole, share, rest, e, c.want)
		}
	}
}

func TestErrorsOfFractions(t *testing.T) {
	half, one := frac("1", "2"), frac("1", "")
	for _, c := range []struct {
		total api.Int
		l     []api.Frac
		want  api.Errno
	}{
		{"5", nil, api.ErrEmpty}, {"x", []api.Frac{}, api.ErrEmpty},
		{"5", times(1001, frac("1", "1001")), api.ErrLimit}, {"5", times(1001, frac("x", "0")), api.ErrLimit}, {"05", times(1001, frac("-1", "")), api.ErrLimit},
		{"05", []api.Frac{one}, api.ErrArgument}, {"x", []api.Frac{one}, api.ErrArgument}, {"-0", []api.Frac{half}, api.ErrArgument}, {"5", []api.Frac{half, frac("2", "4")}, api.ErrArgument},
		{"5", []api.Frac{frac("1", "1")}, api.ErrArgument}, {"5", []api.Frac{one, frac("0", "")}, api.ErrArgument}, {"5", []api.Frac{one, frac("", "1")}, api.ErrArgument}, {"5", []api.Frac{one, frac("", "2")}, api.ErrArgument},
		{"5", []api.Frac{half, frac("-1", "-2")}, api.ErrArgument}, {"5", []api.Frac{half, frac("x", "2")}, api.ErrArgument}, {"5", []api.Frac{one, frac("x", "y")}, api.ErrArgument}, {"5", []api.Frac{frac("1", "02"), half}, api.ErrArgument},
		{"5", []api.Frac{frac("3", "2"), frac("-1", "2")}, api.ErrArgument}, {"5", []api.Frac{one, one, frac("-1", "")}, api.ErrArgument}, {"5", []api.Frac{frac("1", "0")}, api.ErrArgument}, {"5", []api.Frac{frac("-1", "7")}, api.ErrArgument},
		{"5", []api.Frac{{}}, api.ErrMismatch}, {"5", []api.Frac{half}, api.ErrMismatch}, {"5", []api.Frac{half, half, half}, api.ErrMismatch}, {"5", []api.Frac{half, frac("1", "3")}, api.ErrMismatch}, {"", []api.Frac{frac("2", "")}, api.ErrMismatch},
		{"5", []api.Frac{one, frac("1", "1000000000000000000000")}, api.ErrMismatch}, {"5", []api.Frac{frac("999999999999999999999", "1000000000000000000000")}, api.ErrMismatch}, {"5", make([]api.Frac, 1000), api.ErrMismatch},
	} {
		if got, e := allocate.Fractions(c.total, c.l); len(got) != 0 || e != c.want {
			t.Errorf("Fractions(%q, %.9q) = %q, %d, want %d", c.total, c.l, got, e, c.want)
		}
	}
}
