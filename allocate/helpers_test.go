package allocate_test

import (
	"math/big"
	"math/rand"
	"slices"
	"strings"

	"tranche/api"
)

// divider is a function that divides by weights: Split or Running.
type divider func(total api.Int, weights []api.Int) ([]api.Int, api.Errno)

// number returns the value of a canonical integer.
func number(a api.Int) *big.Int {
	n := new(big.Int)
	if a != "" {
		n.SetString(string(a), 10)
	}
	return n
}

// numbers returns the values of canonical integers.
func numbers(l []api.Int) []*big.Int {
	var all []*big.Int
	for _, a := range l {
		all = append(all, number(a))
	}
	return all
}

// whole returns the canonical integer with the value n.
func whole(n *big.Int) api.Int {
	if n.Sign() == 0 {
		return ""
	}
	return api.Int(n.String())
}

// wholes returns the canonical integers with the values l.
func wholes(l []*big.Int) []api.Int {
	var all []api.Int
	for _, n := range l {
		all = append(all, whole(n))
	}
	return all
}

// ints returns integers as they are written, with spaces between them, but the canonical one for 0.
func ints(text string) []api.Int {
	all := []api.Int{}
	for _, word := range strings.Fields(text) {
		if word == "0" {
			word = ""
		}
		all = append(all, api.Int(word))
	}
	return all
}

// times returns the list with an element n times.
func times[T any](n int, element T) []T {
	return slices.Repeat([]T{element}, n)
}

// frac returns a fraction, as it is written here.
func frac(num, den api.Int) api.Frac {
	return api.Frac{Num: num, Den: den}
}

// canonical returns the canonical fraction with the value r.
func canonical(r *big.Rat) api.Frac {
	f := api.Frac{Num: whole(r.Num())}
	if !r.IsInt() {
		f.Den = whole(r.Denom())
	}
	return f
}

// sum returns the sum of a list.
func sum(l []*big.Int) *big.Int {
	total := new(big.Int)
	for _, n := range l {
		total.Add(total, n)
	}
	return total
}

// product returns total * part / all.
func product(total, part, all *big.Int) *big.Rat {
	return new(big.Rat).SetFrac(new(big.Int).Mul(total, part), all)
}

// idealParts returns the ideal parts, as the chapter defines them.
func idealParts(total *big.Int, weights []*big.Int) []*big.Rat {
	var all []*big.Rat
	for _, w := range weights {
		all = append(all, product(total, w, sum(weights)))
	}
	return all
}

// division returns the division of total by weights, as the chapter defines
// it: unit by unit, each for the part that differs most from its ideal part.
func division(total *big.Int, weights []*big.Int) []*big.Int {
	ideals := idealParts(total, weights)
	missing := new(big.Int).Set(total)
	parts := make([]*big.Int, len(weights))
	for i, ideal := range ideals {
		parts[i] = new(big.Int).Quo(ideal.Num(), ideal.Denom())
		missing.Sub(missing, parts[i])
	}
	unit := big.NewInt(int64(total.Sign()))
	given := make([]bool, len(weights))
	for ; missing.Sign() != 0; missing.Sub(missing, unit) {
		most := -1
		for i := range parts {
			if !given[i] && (most < 0 || distance(ideals[i], parts[i]).Cmp(distance(ideals[most], parts[most])) > 0) {
				most = i
			}
		}
		parts[most].Add(parts[most], unit)
		given[most] = true
	}
	return parts
}

// running returns the parts of Running, as the chapter defines them, by rounding the sums of all beginnings down.
func running(total *big.Int, weights []*big.Int) []*big.Int {
	parts := make([]*big.Int, len(weights))
	for i := range weights {
		upTo := floor(product(total, sum(weights[:i+1]), sum(weights)))
		parts[i] = upTo.Sub(upTo, sum(parts[:i]))
	}
	return parts
}

// floor returns the greatest integer that is at most x.
func floor(x *big.Rat) *big.Int {
	return new(big.Int).Div(x.Num(), x.Denom())
}

// distance returns the absolute value of x - n.
func distance(x *big.Rat, n *big.Int) *big.Rat {
	d := new(big.Rat).Sub(x, new(big.Rat).SetInt(n))
	return d.Abs(d)
}

// areNear returns whether each part differs from its ideal part by less than 1.
func areNear(parts []*big.Int, ideals []*big.Rat) bool {
	one := big.NewRat(1, 1)
	for i, part := range parts {
		if distance(ideals[i], part).Cmp(one) >= 0 {
			return false
		}
	}
	return true
}

// source yields numbers that differ from run to run in nothing.
type source struct {
	*rand.Rand
}

func newSource(seed int64) source {
	return source{rand.New(rand.NewSource(seed))}
}

// amount returns a number that is not negative, with few or with many digits.
func (s source) amount() *big.Int {
	n := new(big.Int).SetUint64(s.Uint64() >> s.Intn(64))
	if s.Intn(4) == 0 {
		n.Mul(n, new(big.Int).Exp(big.NewInt(10), big.NewInt(s.Int63n(40)), nil))
		n.Add(n, big.NewInt(s.Int63n(3)))
	}
	return n
}

// total returns a number with any sign.
func (s source) total() *big.Int {
	n := s.amount()
	if s.Intn(2) == 0 {
		n.Neg(n)
	}
	return n
}

// weights returns up to most weights, of which some are often equal, or 0, but not all are 0.
func (s source) weights(most int) []*big.Int {
	all := make([]*big.Int, 1+s.Intn(most))
	small := s.Intn(2) == 0
	for i := range all {
		switch {
		case small:
			all[i] = big.NewInt(s.Int63n(6))
		case i > 0 && s.Intn(3) == 0:
			all[i] = new(big.Int).Set(all[s.Intn(i)])
		default:
			all[i] = s.amount()
		}
	}
	if sum(all).Sign() == 0 {
		all[s.Intn(len(all))].SetInt64(1 + s.Int63n(9))
	}
	return all
}

// fractions returns what the weights are of their sum.
func fractions(weights []*big.Int) []api.Frac {
	var all []api.Frac
	for _, ideal := range idealParts(big.NewInt(1), weights) {
		all = append(all, canonical(ideal))
	}
	return all
}
