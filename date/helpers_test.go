package date_test

import (
	"iter"
	"math"
	"math/rand"
	"regexp"
	"strconv"
	"testing"
	"time"

	"tranche/api"
	"tranche/date"
)

var dayText = regexp.MustCompile(`\A([0-9]{4})-([0-9]{2})-([0-9]{2})\z`)

// civil is a date, or numbers that could be one.
type civil struct {
	year, month, day int
}

// dayOf returns the day that the library of Go knows for a date, also for one that there is not.
func dayOf(c civil) api.Day {
	seconds := time.Date(c.year, time.Month(c.month), c.day, 0, 0, 0, 0, time.UTC).Unix()
	return api.Day(seconds / (24 * 60 * 60))
}

// moment returns the time at which a day begins.
func moment(d api.Day) time.Time {
	return time.Unix(int64(d)*24*60*60, 0).UTC()
}

// civilOf returns the date that the library of Go knows for a day.
func civilOf(d api.Day) civil {
	m := moment(d)
	return civil{m.Year(), int(m.Month()), m.Day()}
}

// textOf returns the text that the library of Go knows for a day.
func textOf(d api.Day) string {
	return moment(d).Format("2006-01-02")
}

// on returns the day with a text.
func on(text string) api.Day {
	m, err := time.Parse("2006-01-02", text)
	if err != nil {
		panic(err)
	}
	return dayOf(civil{m.Year(), int(m.Month()), m.Day()})
}

// The following functions say what the chapter defines.

func valid(d api.Day) bool {
	return d >= api.MinDay && d <= api.MaxDay
}

func leap(year int) bool {
	if year%400 == 0 {
		return true
	}
	if year%100 == 0 {
		return false
	}
	return year%4 == 0
}

func daysOfMonth(year, month int) int {
	switch month {
	case 4, 6, 9, 11:
		return 30
	case 2:
		if leap(year) {
			return 29
		}
		return 28
	}
	return 31
}

// exists returns whether there is a date, however far it is.
func exists(c civil) bool {
	return c.month >= 1 && c.month <= 12 && c.day >= 1 && c.day <= daysOfMonth(c.year, c.month)
}

// next returns the date behind a date.
func (c civil) next() civil {
	if c.day < daysOfMonth(c.year, c.month) {
		return civil{c.year, c.month, c.day + 1}
	}
	if c.month < 12 {
		return civil{c.year, c.month + 1, 1}
	}
	return civil{c.year + 1, 1, 1}
}

// shifted returns a day shifted by months, one after the other. The result need not be valid.
func shifted(d api.Day, n int) api.Day {
	c := civilOf(d)
	for ; n > 0; n-- {
		if c.month++; c.month > 12 {
			c.year, c.month = c.year+1, 1
		}
	}
	for ; n < 0; n++ {
		if c.month--; c.month < 1 {
			c.year, c.month = c.year-1, 12
		}
	}
	c.day = min(c.day, daysOfMonth(c.year, c.month))
	return dayOf(c)
}

// added returns the result of AddMonths.
func added(d api.Day, n int) (api.Day, api.Errno) {
	if !valid(d) {
		return 0, api.ErrDay
	}
	if n < -api.MaxShift || n > api.MaxShift {
		return 0, api.ErrRange
	}
	if !valid(shifted(d, n)) {
		return 0, api.ErrDay
	}
	return shifted(d, n), api.OK
}

// between returns the number of whole months from a to b, which are tried one after the other.
func between(a, b api.Day) int {
	if a > b {
		return -between(b, a)
	}
	// No month has more than 31 days, so that there are at least so many.
	n := int(b-a) / 31
	for shifted(a, n+1) <= b {
		n++
	}
	return n
}

// parsed returns the result of Parse.
func parsed(s string) (api.Day, api.Errno) {
	match := dayText.FindStringSubmatch(s)
	if match == nil {
		return 0, api.ErrSyntax
	}
	year, _ := strconv.Atoi(match[1])
	month, _ := strconv.Atoi(match[2])
	day, _ := strconv.Atoi(match[3])
	c := civil{year, month, day}
	if !exists(c) || !valid(dayOf(c)) {
		return 0, api.ErrDay
	}
	return dayOf(c), api.OK
}

// validDays yields all valid days with their dates.
func validDays() iter.Seq2[api.Day, civil] {
	return func(yield func(api.Day, civil) bool) {
		c := civil{1900, 1, 1}
		for d := api.Day(api.MinDay); d <= api.MaxDay; d++ {
			if !yield(d, c) {
				return
			}
			c = c.next()
		}
	}
}

// invalidDays returns days that are not valid, some of which would be if they had fewer bits.
func invalidDays() []api.Day {
	return []api.Day{
		api.MinDay - 1, api.MaxDay + 1, api.MinDay - 2, api.MaxDay + 2, api.MinDay - 31, api.MaxDay + 31, api.MinDay - 365, api.MaxDay + 366, -146097, 146097,
		-719162, -719163, -719528, 2932896, 1 << 32, 1<<32 - 1, 1<<32 + 1, -1 << 32, 1<<32 + 19813, math.MaxInt32, math.MinInt32,
		math.MinInt, math.MinInt + 1, math.MinInt - api.MinDay, math.MaxInt, math.MaxInt - 1, math.MaxInt - api.MaxDay, 1 << 61, -1 << 61, math.MaxInt / 86400,
	}
}

// hugeNumbers returns numbers that are no years, months or shifts, and some of
// which would be if they had fewer bits.
func hugeNumbers() []int {
	return []int{
		math.MinInt, math.MinInt + 1, math.MinInt + 2000, math.MaxInt, math.MaxInt - 1, 1 << 32, 1<<32 + 1, 1<<32 + 12, 1<<32 + 1970, 1<<32 - 1, -1 << 32, -1<<32 + 1, -1<<32 + 2024,
		math.MinInt32, math.MaxInt32, 1 << 16, 1<<16 + 1, 1<<16 + 2000, 1<<8 + 1, -255, 1 << 62, 1<<62 + 1, -1 << 62, 1<<60 + 2000, 1<<61 + 1, 10000, 100000, -10000,
	}
}

// edges returns valid days: the first and the last two of each month of some years, and others near them.
func edges() []api.Day {
	var all []api.Day
	for _, year := range []int{1900, 1901, 1904, 1969, 1970, 1972, 1999, 2000, 2001, 2023, 2024, 2100, 2196, 2199} {
		for month := 1; month <= 12; month++ {
			for _, day := range []int{1, 2, 15, 27, 28, 29, 30, 31} {
				if c := (civil{year, month, day}); exists(c) {
					all = append(all, dayOf(c))
				}
			}
		}
	}
	return all
}

// source yields days that differ from run to run in nothing.
type source struct {
	*rand.Rand
}

func newSource(seed int64) source {
	return source{rand.New(rand.NewSource(seed))}
}

// day returns a valid day.
func (s source) day() api.Day {
	return api.MinDay + api.Day(s.Intn(api.MaxDay-api.MinDay+1))
}

// near returns a valid day that is often close to d, or about some months away from it.
func (s source) near(d api.Day) api.Day {
	far := api.Day(s.Intn(130) - 65)
	if s.Intn(2) == 0 {
		far += api.Day(365 * (s.Intn(40) - 20))
	}
	return max(api.MinDay, min(api.MaxDay, d+far))
}

// add returns a valid day shifted by months, which must be valid.
func add(t *testing.T, d api.Day, n int) api.Day {
	t.Helper()
	shifted, e := date.AddMonths(d, n)
	if e != api.OK {
		t.Fatalf("AddMonths(%s, %d): %d", textOf(d), n, e)
	}
	return shifted
}

// months returns the number of whole months between two valid days.
func months(t *testing.T, a, b api.Day) int {
	t.Helper()
	n, e := date.Months(a, b)
	if e != api.OK {
		t.Fatalf("Months(%s, %s): %d", textOf(a), textOf(b), e)
	}
	return n
}

// weekday returns the day of the week of a valid day.
func weekday(t *testing.T, d api.Day) int {
	t.Helper()
	n, e := date.Weekday(d)
	if e != api.OK {
		t.Fatalf("Weekday(%s): %d", textOf(d), e)
	}
	return n
}

// text returns the text of a valid day.
func text(t *testing.T, d api.Day) string {
	t.Helper()
	s, e := date.Print(d)
	if e != api.OK {
		t.Fatalf("Print(%s): %d", textOf(d), e)
	}
	return s
}

// parts returns the date of a valid day.
func parts(t *testing.T, d api.Day) civil {
	t.Helper()
	year, month, day, e := date.Parts(d)
	if e != api.OK {
		t.Fatalf("Parts(%s): %d", textOf(d), e)
	}
	return civil{year, month, day}
}

// expectDay returns a function that tests a day and an error.
func expectDay(t *testing.T, want api.Day, code api.Errno) func(api.Day, api.Errno) {
	return func(got api.Day, e api.Errno) {
		t.Helper()
		if got != want || e != code {
			t.Errorf("%d, %d, want %d, %d", got, e, want, code)
		}
	}
}
