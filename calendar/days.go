package calendar

import (
	"cmp"
	"iter"
	"slices"
	"sort"

	"tranche/api"
	"tranche/date"
)

// The directions in which days are yielded.
const (
	forwards  = 1
	backwards = -1
)

// isBusiness returns whether a valid day is a business day.
func isBusiness(c api.Calendar, d api.Day) bool {
	weekday, _ := date.Weekday(d)
	return !slices.Contains(c.Weekend, weekday) && !isHoliday(c, d)
}

// isHoliday returns whether a day is a holiday.
func isHoliday(c api.Calendar, d api.Day) bool {
	at := sort.Search(len(c.Holidays), func(i int) bool { return c.Holidays[i] >= d })
	return at < len(c.Holidays) && c.Holidays[at] == d
}

// days yields the valid days from d on in a direction. None are yielded if d is not valid.
func days(d api.Day, direction int) iter.Seq[api.Day] {
	return func(yield func(api.Day) bool) {
		for day := d; isValid(day); day += api.Day(direction) {
			if !yield(day) {
				return
			}
		}
	}
}

// businessDays yields the business days from d on in a direction.
func businessDays(c api.Calendar, d api.Day, direction int) iter.Seq[api.Day] {
	return func(yield func(api.Day) bool) {
		for day := range days(d, direction) {
			if isBusiness(c, day) && !yield(day) {
				return
			}
		}
	}
}

// first returns the first one of the days that are yielded, or ErrDay if there is none.
func first(all iter.Seq[api.Day]) (api.Day, api.Errno) {
	for d := range all {
		return d, api.OK
	}
	return 0, api.ErrDay
}

// shift returns the n-th business day behind a valid day, or the -n-th one
// before it, or ErrDay if there is none. n must not be 0.
func shift(c api.Calendar, d api.Day, n int) (api.Day, api.Errno) {
	direction := forwards
	if n < 0 {
		direction = backwards
	}
	// n is counted towards 0, because the least number has no opposite one.
	for day := range businessDays(c, d+api.Day(direction), direction) {
		n -= direction
		if n == 0 {
			return day, api.OK
		}
	}
	return 0, api.ErrDay
}

// count returns the number of business days of a period from a valid day to a later valid day, or to itself.
func count(c api.Calendar, p api.Period) int {
	n := 0
	for d := range days(p.From, forwards) {
		if d == p.To {
			break
		}
		if isBusiness(c, d) {
			n++
		}
	}
	return n
}

// union returns the elements of both lists in ascending order, each of them once.
func union[T cmp.Ordered](a, b []T) []T {
	all := slices.Concat(a, b)
	slices.Sort(all)
	return slices.Compact(all)
}
