package integer

import (
	"cmp"
	"iter"
	"strconv"

	"tranche/api"
)

// A number without its sign is a slice of groups of width digits, of which the
// first group is the lowest and the last one is not 0; it is empty for 0. The
// product of two groups, with two carries, fits into an int.
const (
	width = 9
	base  = 1_000_000_000
)

// read returns whether the value of a is negative, and its groups.
func read(a api.Int) (bool, []int) {
	negative, digits := split(a)
	groups := make([]int, (len(digits)+width-1)/width)
	for i := range groups {
		end := len(digits) - i*width
		for j := max(0, end-width); j < end; j++ {
			groups[i] = groups[i]*10 + int(digits[j]-'0')
		}
	}
	return negative, groups
}

// write returns the integer with a sign and groups.
func write(negative bool, groups []int) api.Int {
	if len(groups) == 0 {
		return ""
	}
	text := make([]byte, 0, 1+width*len(groups))
	if negative {
		text = append(text, '-')
	}
	last := len(groups) - 1
	text = append(text, strconv.Itoa(groups[last])...)
	for i := last - 1; i >= 0; i-- {
		// The base has one digit more than a group, so that the digits behind
		// the first one are those of the group, with its leading zeros.
		text = append(text, strconv.Itoa(base + groups[i])[1:]...)
	}
	return api.Int(text)
}

// trim returns groups without the zeros at its end.
func trim(groups []int) []int {
	for len(groups) > 0 && groups[len(groups)-1] == 0 {
		groups = groups[:len(groups)-1]
	}
	return groups
}

// compareGroups compares two numbers.
func compareGroups(x, y []int) int {
	if len(x) != len(y) {
		return cmp.Compare(len(x), len(y))
	}
	for i := len(x) - 1; i >= 0; i-- {
		if x[i] != y[i] {
			return cmp.Compare(x[i], y[i])
		}
	}
	return 0
}

// addTimes adds factor times y to sum, which is longer than y, in place. What
// is carried or borrowed in the end is left in the last group of sum, which
// becomes negative if the result is negative.
func addTimes(sum, y []int, factor int) {
	last := len(sum) - 1
	carry := 0
	for i := range last {
		n := sum[i] + carry
		if i < len(y) {
			n += factor * y[i]
		}
		carry = n / base
		if n < carry*base {
			carry--
		}
		sum[i] = n - carry*base
	}
	sum[last] += carry
}

// combine returns x + factor * y, which must not be negative, for a factor of 1 or -1.
func combine(x, y []int, factor int) []int {
	sum := make([]int, max(len(x), len(y))+1)
	copy(sum, x)
	addTimes(sum, y, factor)
	return trim(sum)
}

// multiply returns x * y with len(x) + len(y) groups, of which the last ones may be 0.
func multiply(x, y []int) []int {
	product := make([]int, len(x)+len(y))
	for i, group := range x {
		addTimes(product[i:i+len(y)+1], y, group)
	}
	return product
}

// divide returns the quotient of x and y, which is not 0, rounded down, and the remainder.
func divide(x, y []int) ([]int, []int) {
	if compareGroups(x, y) < 0 {
		return nil, x
	}
	// Both are multiplied by a factor that makes the last group of the divisor
	// at least half of the base: then a group of the quotient that is guessed
	// from the last groups alone is too large by 2 at most.
	factor := base / (y[len(y)-1] + 1)
	rest := multiply(x, []int{factor})
	divisor := trim(multiply(y, []int{factor}))
	quotient := make([]int, len(x)-len(y)+1)
	for i := len(quotient) - 1; i >= 0; i-- {
		quotient[i] = reduce(rest[i:i+len(y)+1], divisor)
	}
	return trim(quotient), shrink(rest, factor)
}

// reduce divides rest, which has one group more than divisor, by divisor in
// place, and returns the quotient, which must be less than the base.
func reduce(rest, divisor []int) int {
	top := len(divisor)
	guess := min((rest[top]*base+rest[top-1])/divisor[top-1], base-1)
	addTimes(rest, divisor, -guess)
	for rest[top] < 0 {
		guess--
		addTimes(rest, divisor, 1)
	}
	return guess
}

// shrink returns x / divisor, which leaves no remainder, for a divisor of one group.
func shrink(x []int, divisor int) []int {
	quotient := make([]int, len(x))
	rest := 0
	for i := len(x) - 1; i >= 0; i-- {
		n := rest*base + x[i]
		quotient[i] = n / divisor
		rest = n % divisor
	}
	return trim(quotient)
}

// quotients yields the quotients of Euclid's algorithm for x and y, each with the remainder that it leaves.
func quotients(x, y []int) iter.Seq2[[]int, []int] {
	return func(yield func([]int, []int) bool) {
		dividend, divisor := x, y
		for len(divisor) > 0 {
			quotient, rest := divide(dividend, divisor)
			if !yield(quotient, rest) {
				return
			}
			dividend, divisor = divisor, rest
		}
	}
}
