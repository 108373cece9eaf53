package date

import "tranche/api"

// The valid days are those of these years, and of the years between them.
const (
	firstYear = 1900
	lastYear  = 2199
)

// lengths has the numbers of days of the months, in a year that is no leap year.
var lengths = [12]int{31, 28, 31, 30, 31, 30, 31, 31, 30, 31, 30, 31}

// isValid returns whether a day is valid.
func isValid(d api.Day) bool {
	return d >= api.MinDay && d <= api.MaxDay
}

// isDate returns whether there is a date, and its day is valid.
func isDate(year, month, day int) bool {
	return year >= firstYear && year <= lastYear && month >= 1 && month <= len(lengths) && day >= 1 && day <= monthDays(year, month)
}

// monthDays returns the number of days of a month.
func monthDays(year, month int) int {
	if month == 2 && Leap(year) {
		return lengths[month-1] + 1
	}
	return lengths[month-1]
}

// leapYears returns how many leap years there are from the year 1 up to, but
// not including, a year that is greater than 0.
func leapYears(year int) int {
	last := year - 1
	return last/4 - last/100 + last/400
}

// newYear returns the first day of a year that is greater than 0. It need not be valid.
func newYear(year int) api.Day {
	return api.Day(365*(year-1970) + leapYears(year) - leapYears(1970))
}

// dayOf returns the day of a date, whose year must be greater than 0. It need not be valid.
func dayOf(year, month, day int) api.Day {
	days := day - 1
	for before := 1; before < month; before++ {
		days += monthDays(year, before)
	}
	return newYear(year) + api.Day(days)
}

// dateOf returns the date of a valid day.
func dateOf(d api.Day) (year, month, day int) {
	// No year has more than 366 days, so that this year is at most the right one.
	year = firstYear + int(d-api.MinDay)/366
	for newYear(year+1) <= d {
		year++
	}
	month, day = 1, int(d-newYear(year))+1
	for day > monthDays(year, month) {
		day -= monthDays(year, month)
		month++
	}
	return year, month, day
}

// shift returns a valid day, shifted by at most MaxShift months in either
// direction. The result need not be valid.
func shift(d api.Day, n int) api.Day {
	year, month, day := dateOf(d)
	// The number of months since the year 0 stays positive, so that its division rounds down.
	months := len(lengths)*year + month - 1 + n
	year, month = months/len(lengths), months%len(lengths)+1
	return dayOf(year, month, min(day, monthDays(year, month)))
}

// wholeMonths returns the number of whole months from a to b, which is at least a.
func wholeMonths(a, b api.Day) int {
	yearA, monthA, _ := dateOf(a)
	yearB, monthB, _ := dateOf(b)
	n := len(lengths)*(yearB-yearA) + monthB - monthA
	if shift(a, n) > b {
		return n - 1
	}
	return n
}
