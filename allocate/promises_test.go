package allocate_test

import (
	"math/big"
	"slices"
	"testing"

	"tranche/allocate"
	"tranche/api"
)

// forAll calls check with totals and weights: all small ones, and a number of others.
func forAll(seed int64, check func(total *big.Int, weights []*big.Int)) {
	for _, weights := range smallWeights(3, 4) {
		for total := int64(-7); total <= 7; total++ {
			check(big.NewInt(total), weights)
		}
	}
	s := newSource(seed)
	for range 600 {
		check(s.total(), s.weights(10))
	}
}

// split returns what Split returns, as numbers.
func split(t *testing.T, total *big.Int, weights []*big.Int) []*big.Int {
	t.Helper()
	return divided(t, allocate.Split, total, weights)
}

// run returns what Running returns, as numbers.
func run(t *testing.T, total *big.Int, weights []*big.Int) []*big.Int {
	t.Helper()
	return divided(t, allocate.Running, total, weights)
}

// divided returns the parts that a function returns, as numbers.
func divided(t *testing.T, divide divider, total *big.Int, weights []*big.Int) []*big.Int {
	t.Helper()
	parts, e := divide(whole(total), wholes(weights))
	if e != api.OK || len(parts) != len(weights) {
		t.Fatalf("%v by %v: %q, %d", total, weights, parts, e)
	}
	return numbers(parts)
}

// same returns whether two lists have the same numbers.
func same(a, b []*big.Int) bool {
	return slices.EqualFunc(a, b, func(x, y *big.Int) bool { return x.Cmp(y) == 0 })
}

// opposites returns the opposites of all numbers.
func opposites(l []*big.Int) []*big.Int {
	return multiples(l, big.NewInt(-1))
}

// multiples returns all numbers, multiplied by a factor.
func multiples(l []*big.Int, factor *big.Int) []*big.Int {
	var all []*big.Int
	for _, n := range l {
		all = append(all, new(big.Int).Mul(n, factor))
	}
	return all
}

// P4.2

func TestSums(t *testing.T) {
	forAll(11, func(total *big.Int, weights []*big.Int) {
		byFractions, e := allocate.Fractions(whole(total), fractions(weights))
		if e != api.OK {
			t.Fatalf("Fractions of %v by %v: %d", total, weights, e)
		}
		for name, parts := range map[string][]*big.Int{"Split": split(t, total, weights), "Running": run(t, total, weights), "Fractions": numbers(byFractions)} {
			if sum(parts).Cmp(total) != 0 {
				t.Fatalf("%s of %v by %v: %v", name, total, weights, parts)
			}
		}
		share, rest, e := allocate.Share(whole(total), whole(weights[0]), whole(sum(weights)))
		if e != api.OK || new(big.Int).Add(number(share), number(rest)).Cmp(total) != 0 {
			t.Fatalf("Share(%v, %v, %v) = %q, %q, %d", total, weights[0], sum(weights), share, rest, e)
		}
	})
}

// P4.3

func TestFairness(t *testing.T) {
	forAll(12, func(total *big.Int, weights []*big.Int) {
		for _, parts := range [][]*big.Int{split(t, total, weights), run(t, total, weights)} {
			if e := allocate.Check(whole(total), wholes(weights), wholes(parts)); e != api.OK || !areNear(parts, idealParts(total, weights)) {
				t.Fatalf("the parts %v of %v by %v are not fair: %d", parts, total, weights, e)
			}
			for i, w := range weights {
				if w.Sign() == 0 && parts[i].Sign() != 0 {
					t.Fatalf("the parts of %v by %v are %v", total, weights, parts)
				}
			}
		}
	})
}

// P4.4

func TestOrder(t *testing.T) {
	one := big.NewInt(1)
	forAll(13, func(total *big.Int, weights []*big.Int) {
		parts := split(t, total, weights)
		for i := range parts {
			for j := range parts {
				order := weights[i].Cmp(weights[j])
				nearer := parts[i].CmpAbs(parts[j]) < 0
				if (order > 0 || order == 0 && i < j) && nearer {
					t.Fatalf("the parts of %v by %v are %v", total, weights, parts)
				}
				if gap := new(big.Int).Sub(parts[i], parts[j]); order == 0 && gap.CmpAbs(one) > 0 {
					t.Fatalf("the parts of %v by %v are %v", total, weights, parts)
				}
			}
		}
	})
}

// P4.5

func TestProportions(t *testing.T) {
	s := newSource(140)
	forAll(14, func(total *big.Int, weights []*big.Int) {
		factor := big.NewInt(1 + s.Int63n(99))
		more := multiples(weights, factor)
		if !same(split(t, total, weights), split(t, total, more)) || !same(run(t, total, weights), run(t, total, more)) {
			t.Fatalf("%v is divided otherwise by %v than by %v", total, weights, more)
		}
		ideal, _ := allocate.Ideal(whole(total), wholes(weights))
		if again, e := allocate.Ideal(whole(total), wholes(more)); !slices.Equal(ideal, again) || e != api.OK {
			t.Fatalf("%v has other ideal parts by %v than by %v", total, weights, more)
		}
		share, _, _ := allocate.Share(whole(total), whole(weights[0]), whole(sum(weights)))
		if again, _, e := allocate.Share(whole(total), whole(more[0]), whole(sum(more))); share != again || e != api.OK {
			t.Fatalf("the share of %v for %v of %v is not that for %v of %v", total, weights[0], sum(weights), more[0], sum(more))
		}
	})
}

func TestOppositeTotals(t *testing.T) {
	forAll(15, func(total *big.Int, weights []*big.Int) {
		opposite := new(big.Int).Neg(total)
		if !same(split(t, opposite, weights), opposites(split(t, total, weights))) {
			t.Fatalf("Split: %v and %v by %v", total, opposite, weights)
		}
		there, _ := allocate.Fractions(whole(total), fractions(weights))
		back, e := allocate.Fractions(whole(opposite), fractions(weights))
		if !same(numbers(back), opposites(numbers(there))) || e != api.OK {
			t.Fatalf("Fractions: %v and %v by %v", total, opposite, weights)
		}
		share, _, _ := allocate.Share(whole(total), whole(weights[0]), whole(sum(weights)))
		other, _, e := allocate.Share(whole(opposite), whole(weights[0]), whole(sum(weights)))
		if number(share).CmpAbs(number(other)) != 0 || number(share).Sign() != -number(other).Sign() || e != api.OK {
			t.Fatalf("Share: %v and %v for %v of %v", total, opposite, weights[0], sum(weights))
		}
		// Running rounds down, also what is negative: its opposite is rounded
		// up, which is what it does when it comes from the other end.
		backwards := slices.Clone(weights)
		slices.Reverse(backwards)
		want := opposites(run(t, total, backwards))
		slices.Reverse(want)
		if !same(run(t, opposite, weights), want) {
			t.Fatalf("Running: %v and %v by %v", total, opposite, weights)
		}
	})
}

// P4.6

func TestNearest(t *testing.T) {
	one := big.NewInt(1)
	forAll(16, func(total *big.Int, weights []*big.Int) {
		parts, ideals := split(t, total, weights), idealParts(total, weights)
		least := squares(parts, ideals)
		for i := range parts {
			for j := range parts {
				moved := slices.Clone(parts)
				moved[i] = new(big.Int).Sub(moved[i], one)
				moved[j] = new(big.Int).Add(moved[j], one)
				if i != j && squares(moved, ideals).Cmp(least) < 0 {
					t.Fatalf("the parts %v of %v by %v are nearer than %v", moved, total, weights, parts)
				}
			}
		}
	})
}

// squares returns the sum of the squares of the differences to the ideal parts.
func squares(parts []*big.Int, ideals []*big.Rat) *big.Rat {
	all := new(big.Rat)
	for i, part := range parts {
		d := distance(ideals[i], part)
		all.Add(all, d.Mul(d, d))
	}
	return all
}

// P4.7

func TestSharesOfGreaterParts(t *testing.T) {
	for total := int64(-12); total <= 12; total++ {
		for all := int64(1); all <= 12; all++ {
			var parts []*big.Int
			for part := range all + 1 {
				parts = append(parts, big.NewInt(part))
			}
			expectGrowingShares(t, big.NewInt(total), parts)
		}
	}
	s := newSource(17)
	for range 300 {
		parts := append(s.weights(10), new(big.Int), s.amount())
		slices.SortFunc(parts, (*big.Int).Cmp)
		expectGrowingShares(t, s.total(), parts)
	}
}

// expectGrowingShares tests the shares for parts from nothing to the whole.
func expectGrowingShares(t *testing.T, total *big.Int, parts []*big.Int) {
	t.Helper()
	all := parts[len(parts)-1]
	before := new(big.Int)
	for i, part := range parts {
		text, _, e := allocate.Share(whole(total), whole(part), whole(all))
		share := number(text)
		if e != api.OK || share.CmpAbs(before) < 0 || share.Sign()*total.Sign() < 0 {
			t.Fatalf("Share(%v, %v, %v) = %v, %d after %v", total, part, all, share, e, before)
		}
		if i == 0 && share.Sign() != 0 || part.Cmp(all) == 0 && share.Cmp(total) != 0 {
			t.Fatalf("Share(%v, %v, %v) = %v", total, part, all, share)
		}
		before = share
	}
}

// P4.8

// TestBeginnings compares the parts of a beginning with those that it has when
// the weights behind it, or those in it, are put together, and when what the
// beginning has exactly is divided alone.
func TestBeginnings(t *testing.T) {
	forAll(18, func(total *big.Int, weights []*big.Int) {
		parts, all := run(t, total, weights), sum(weights)
		for i := range len(weights) + 1 {
			before, behind := sum(weights[:i]), sum(weights[i:])
			if short := run(t, total, append(slices.Clone(weights[:i]), behind)); !same(short[:i], parts[:i]) {
				t.Fatalf("Running of %v by %v begins otherwise than %v", total, weights, short)
			}
			if late := run(t, total, append([]*big.Int{before}, weights[i:]...)); !same(late[1:], parts[i:]) || late[0].Cmp(sum(parts[:i])) != 0 {
				t.Fatalf("Running of %v by %v ends otherwise than %v", total, weights, late)
			}
			exact := product(total, before, all)
			if sum(parts[:i]).Cmp(floor(exact)) != 0 {
				t.Fatalf("Running of %v by %v: %v, of which the first %d should be %v", total, weights, parts, i, exact)
			}
			if exact.IsInt() && before.Sign() > 0 && !same(run(t, exact.Num(), weights[:i]), parts[:i]) {
				t.Fatalf("Running of %v by %v divides its beginning %v otherwise than alone", total, weights, weights[:i])
			}
		}
	})
}

// R3

func TestArgumentsRemain(t *testing.T) {
	weights, parts := ints("5 0 3 1"), ints("5 0 3 1")
	l := []api.Frac{frac("1", "2"), frac("1", "2")}
	split, _ := allocate.Split("9", weights)
	running, _ := allocate.Running("9", weights)
	ideal, _ := allocate.Ideal("9", weights)
	byFractions, _ := allocate.Fractions("9", l)
	even, _ := allocate.Even("9", 4)
	allocate.Check("9", weights, parts)
	if !slices.Equal(weights, ints("5 0 3 1")) || !slices.Equal(parts, weights) || !slices.Equal(l, times(2, frac("1", "2"))) {
		t.Fatalf("the arguments have become %q, %q and %q", weights, parts, l)
	}
	for _, result := range [][]api.Int{split, running, byFractions, even} {
		clear(result)
	}
	clear(ideal)
	if !slices.Equal(weights, ints("5 0 3 1")) || !slices.Equal(l, times(2, frac("1", "2"))) {
		t.Fatal("results share memory with arguments")
	}
	if again, _ := allocate.Even("9", 4); !slices.Equal(again, ints("3 2 2 2")) {
		t.Fatal("results share memory with each other")
	}
}

// R5

func TestResultsDependOnArgumentsOnly(t *testing.T) {
	weights := slices.Repeat(ints("3 1 2 3"), 50)
	split, _ := allocate.Split("-12345", weights)
	for range 30 {
		if again, e := allocate.Split("-12345", weights); !slices.Equal(again, split) || e != api.OK {
			t.Fatal("results change")
		}
	}
}
