package calendar_test

import (
	"iter"
	"math"
	"math/rand"
	"slices"
	"sort"
	"sync"
	"testing"
	"time"

	"tranche/api"
	"tranche/calendar"
)

// validDays is the number of days from MinDay to MaxDay.
const validDays = api.MaxDay - api.MinDay + 1

// moment returns the time at which a day begins, as the library of Go knows it.
func moment(d api.Day) time.Time {
	return time.Unix(int64(d)*24*60*60, 0).UTC()
}

// textOf returns the text of a day.
func textOf(d api.Day) string {
	return moment(d).Format("2006-01-02")
}

// on returns the day with a text.
func on(text string) api.Day {
	m, err := time.Parse("2006-01-02", text)
	if err != nil {
		panic(err)
	}
	return api.Day(m.Unix() / (24 * 60 * 60))
}

// days returns the days with these texts.
func days(texts ...string) []api.Day {
	var all []api.Day
	for _, text := range texts {
		all = append(all, on(text))
	}
	return all
}

// from returns n successive days.
func from(d api.Day, n int) []api.Day {
	var all []api.Day
	for i := range n {
		all = append(all, d+api.Day(i))
	}
	return all
}

// monthDays returns all days of the month of a day.
func monthDays(text string) []api.Day {
	all := days(text)
	for sameMonth(all[0], all[len(all)-1]+1) {
		all = append(all, all[len(all)-1]+1)
	}
	for sameMonth(all[0], all[0]-1) {
		all = append([]api.Day{all[0] - 1}, all...)
	}
	return all
}

// The following functions say what the chapter defines.

func valid(d api.Day) bool {
	return d >= -25567 && d <= 84005
}

func sameMonth(a, b api.Day) bool {
	return moment(a).Year() == moment(b).Year() && moment(a).Month() == moment(b).Month()
}

// weekdayOf returns the day of the week, from 0 for Monday.
func weekdayOf(d api.Day) int {
	return (int(moment(d).Weekday()) + 6) % 7
}

// ascending returns whether a list is strictly ascending up to an index.
func ascending[T int | api.Day](l []T, i int) bool {
	return i == 0 || l[i-1] < l[i]
}

func calendarError(c api.Calendar) api.Errno {
	for i, w := range c.Weekend {
		switch {
		case w != 0 && w != 1 && w != 2 && w != 3 && w != 4 && w != 5 && w != 6:
			return api.ErrRange
		case !ascending(c.Weekend, i):
			return api.ErrOrder
		}
	}
	if len(c.Holidays) > 1000 {
		return api.ErrLimit
	}
	for i, d := range c.Holidays {
		switch {
		case !valid(d):
			return api.ErrDay
		case !ascending(c.Holidays, i):
			return api.ErrOrder
		}
	}
	return api.OK
}

// model is a calendar with all its business days, which are written down once.
type model struct {
	name string
	api.Calendar
	closed map[api.Day]bool
	all    []api.Day
}

// modelOf returns the model of a valid calendar.
func modelOf(name string, c api.Calendar) model {
	m := model{name, c, map[api.Day]bool{}, nil}
	for _, d := range c.Holidays {
		m.closed[d] = true
	}
	for d := api.Day(api.MinDay); d <= api.MaxDay; d++ {
		if m.open(d) {
			m.all = append(m.all, d)
		}
	}
	return m
}

// open returns whether a valid day is a business day.
func (m model) open(d api.Day) bool {
	return !m.closed[d] && !slices.Contains(m.Weekend, weekdayOf(d))
}

// before returns the number of business days before a day.
func (m model) before(d api.Day) int {
	return sort.Search(len(m.all), func(i int) bool { return m.all[i] >= d })
}

// at returns the business day with an index, or ErrDay if there is none.
func (m model) at(i int) (api.Day, api.Errno) {
	if i < 0 || i >= len(m.all) {
		return 0, api.ErrDay
	}
	return m.all[i], api.OK
}

func (m model) next(d api.Day) (api.Day, api.Errno) {
	return m.at(m.before(d))
}

func (m model) previous(d api.Day) (api.Day, api.Errno) {
	return m.at(m.before(d+1) - 1)
}

func (m model) adjusted(d api.Day, convention int) (api.Day, api.Errno) {
	switch convention {
	case 1:
		return d, api.OK
	case 2:
		return m.next(d)
	case 3:
		if next, e := m.next(d); e == api.OK && sameMonth(next, d) {
			return next, api.OK
		}
		return m.previous(d)
	case 4:
		return m.previous(d)
	}
	return 0, api.ErrKind
}

func (m model) added(d api.Day, n int) (api.Day, api.Errno) {
	switch {
	case n < -validDays || n > validDays:
		return 0, api.ErrDay
	case n > 0:
		return m.at(m.before(d+1) - 1 + n)
	case n < 0:
		return m.at(m.before(d) + n)
	}
	return m.next(d)
}

func (m model) count(p api.Period) int {
	return m.before(p.To) - m.before(p.From)
}

// monthIsOpen returns whether the month of a day has a business day.
func (m model) monthIsOpen(d api.Day) bool {
	for _, day := range monthDays(textOf(d)) {
		if m.open(day) {
			return true
		}
	}
	return false
}

// joined returns the result of Join for valid calendars.
func joined(a, b api.Calendar) (api.Calendar, api.Errno) {
	c := api.Calendar{}
	for w := range 7 {
		if slices.Contains(a.Weekend, w) || slices.Contains(b.Weekend, w) {
			c.Weekend = append(c.Weekend, w)
		}
	}
	closed := map[api.Day]bool{}
	for _, d := range slices.Concat(a.Holidays, b.Holidays) {
		closed[d] = true
	}
	if len(closed) > 1000 {
		return api.Calendar{}, api.ErrLimit
	}
	for d := range closed {
		c.Holidays = append(c.Holidays, d)
	}
	slices.Sort(c.Holidays)
	return c, api.OK
}

// equal returns whether calendars are equal, where a nil slice is an empty one.
func equal(a, b api.Calendar) bool {
	return slices.Equal(a.Weekend, b.Weekend) && slices.Equal(a.Holidays, b.Holidays)
}

// clone returns a calendar with memory of its own.
func clone(c api.Calendar) api.Calendar {
	return api.Calendar{Weekend: slices.Clone(c.Weekend), Holidays: slices.Clone(c.Holidays)}
}

// christmas is the calendar of the chapter's examples.
func christmas() api.Calendar {
	return api.Calendar{Weekend: []int{5, 6}, Holidays: days("2024-12-25")}
}

// never is a calendar without any business day.
func never() api.Calendar {
	return api.Calendar{Weekend: []int{0, 1, 2, 3, 4, 5, 6}}
}

// holidaysOnWeekends returns the Saturdays and Sundays of some weeks, and a Monday.
func holidaysOnWeekends() []api.Day {
	return days("2024-11-02", "2024-11-03", "2024-11-09", "2024-11-10", "2024-11-11", "2024-11-30", "2024-12-01")
}

// models returns valid calendars, which are written down once: the edge cases, and ordinary ones.
var models = sync.OnceValue(func() []model {
	s := newSource(1)
	return []model{
		modelOf("every day", api.Calendar{}),
		modelOf("no day", never()),
		modelOf("christmas", christmas()),
		modelOf("weekends", api.Calendar{Weekend: []int{5, 6}}),
		modelOf("holidays only", api.Calendar{Weekend: []int{}, Holidays: days("1900-01-01", "1969-12-31", "1970-01-01", "2000-02-29", "2024-03-31", "2199-12-31")}),
		modelOf("holidays on weekends", api.Calendar{Weekend: []int{5, 6}, Holidays: holidaysOnWeekends()}),
		modelOf("Wednesdays", api.Calendar{Weekend: []int{0, 1, 3, 4, 5, 6}, Holidays: days("2024-02-28", "2024-05-29", "2024-07-31")}),
		modelOf("apart", api.Calendar{Weekend: []int{0, 2, 6}}),
		modelOf("the first days", api.Calendar{Weekend: []int{4}, Holidays: from(api.MinDay, api.MaxHolidays)}),
		modelOf("the last days", api.Calendar{Weekend: []int{6}, Holidays: from(api.MaxDay-api.MaxHolidays+1, api.MaxHolidays)}),
		modelOf("both ends", api.Calendar{Holidays: slices.Concat(from(api.MinDay, 40), from(api.MaxDay-39, 40))}),
		modelOf("no February", api.Calendar{Weekend: []int{5, 6}, Holidays: slices.Concat(monthDays("2023-02-01"), monthDays("2024-02-01"))}),
		modelOf("no August to October", api.Calendar{Holidays: slices.Concat(monthDays("2024-08-01"), monthDays("2024-09-01"), monthDays("2024-10-01"))}),
		modelOf("no first and last months", api.Calendar{Weekend: []int{3}, Holidays: slices.Concat(monthDays("1900-01-01"), monthDays("2199-12-31"))}),
		modelOf("some", s.calendar(3, 30)), modelOf("many", s.calendar(2, api.MaxHolidays)), modelOf("dense", s.dense(1, 900)), modelOf("few", s.dense(6, 12)),
	}
})

// ordinary returns the models that have business days.
func ordinary() []model {
	return slices.DeleteFunc(slices.Clone(models()), func(m model) bool { return len(m.all) == 0 })
}

// invalidCalendars yields calendars that are not valid, with the errors that Check returns.
func invalidCalendars() iter.Seq2[api.Calendar, api.Errno] {
	tooMany := from(0, api.MaxHolidays+1)
	return func(yield func(api.Calendar, api.Errno) bool) {
		for _, c := range []struct {
			weekend  []int
			holidays []api.Day
			code     api.Errno
		}{
			{[]int{7}, nil, api.ErrRange}, {[]int{-1}, nil, api.ErrRange}, {[]int{5, 6, 7}, nil, api.ErrRange}, {[]int{5, 7}, nil, api.ErrRange}, {[]int{5, -1}, nil, api.ErrRange}, {[]int{-1, 5}, nil, api.ErrRange}, {[]int{0, 1, 2, 3, 4, 5, 6, 7}, nil, api.ErrRange},
			{[]int{math.MaxInt}, nil, api.ErrRange}, {[]int{math.MinInt}, nil, api.ErrRange}, {[]int{1 << 32}, nil, api.ErrRange}, {[]int{1<<32 + 5}, nil, api.ErrRange}, {[]int{256 + 5}, nil, api.ErrRange},
			{[]int{6, 5}, nil, api.ErrOrder}, {[]int{5, 5}, nil, api.ErrOrder}, {[]int{5, 6, 6}, nil, api.ErrOrder}, {[]int{5, 6, 0}, nil, api.ErrOrder}, {[]int{0, 0}, nil, api.ErrOrder}, {[]int{0, 1, 2, 3, 4, 5, 6, 6}, nil, api.ErrOrder}, {[]int{0, 2, 1}, nil, api.ErrOrder},
			// The first element that has an error decides, and its range comes first.
			{[]int{5, 7, 6}, nil, api.ErrRange}, {[]int{6, 5, 7}, nil, api.ErrOrder}, {[]int{7, 6}, nil, api.ErrRange}, {[]int{7, 7}, nil, api.ErrRange}, {[]int{3, -1, 2}, nil, api.ErrRange}, {[]int{3, 2, -1}, nil, api.ErrOrder},
			// The weekend comes before the holidays.
			{[]int{7}, tooMany, api.ErrRange}, {[]int{6, 5}, tooMany, api.ErrOrder}, {[]int{7}, []api.Day{api.MaxDay + 1}, api.ErrRange}, {[]int{6, 5}, []api.Day{api.MaxDay + 1}, api.ErrOrder}, {[]int{7}, []api.Day{2, 1}, api.ErrRange},
			{nil, tooMany, api.ErrLimit}, {[]int{5, 6}, tooMany, api.ErrLimit}, {nil, from(0, 5000), api.ErrLimit}, {nil, make([]api.Day, api.MaxHolidays+1), api.ErrLimit}, {nil, from(api.MaxDay-4, api.MaxHolidays+1), api.ErrLimit}, {nil, from(api.MinDay-1, api.MaxHolidays+1), api.ErrLimit},
			{nil, []api.Day{api.MinDay - 1}, api.ErrDay}, {nil, []api.Day{api.MaxDay + 1}, api.ErrDay}, {nil, []api.Day{0, api.MaxDay + 1}, api.ErrDay}, {nil, []api.Day{api.MinDay - 1, 0}, api.ErrDay}, {nil, from(api.MaxDay-api.MaxHolidays+2, api.MaxHolidays), api.ErrDay}, {nil, from(api.MinDay-1, api.MaxHolidays), api.ErrDay},
			{nil, []api.Day{math.MaxInt}, api.ErrDay}, {nil, []api.Day{math.MinInt}, api.ErrDay}, {nil, []api.Day{1 << 32}, api.ErrDay}, {nil, []api.Day{0, 1<<32 + 1}, api.ErrDay},
			{nil, []api.Day{1, 0}, api.ErrOrder}, {nil, []api.Day{0, 0}, api.ErrOrder}, {nil, []api.Day{0, 1, 1}, api.ErrOrder}, {nil, []api.Day{0, 2, 1}, api.ErrOrder}, {nil, []api.Day{api.MaxDay, api.MinDay}, api.ErrOrder}, {[]int{5, 6}, days("2024-12-25", "2024-12-24"), api.ErrOrder}, {nil, append(from(0, api.MaxHolidays-1), 0), api.ErrOrder},
			// Again the first one that has an error decides, and its day comes first.
			{nil, []api.Day{0, api.MinDay - 1}, api.ErrDay}, {nil, []api.Day{0, api.MinDay - 1, -1}, api.ErrDay}, {nil, []api.Day{1, 0, api.MaxDay + 1}, api.ErrOrder}, {nil, []api.Day{api.MaxDay + 1, 0}, api.ErrDay}, {nil, []api.Day{api.MaxDay + 1, api.MaxDay + 1}, api.ErrDay},
		} {
			if !yield(api.Calendar{Weekend: c.weekend, Holidays: c.holidays}, c.code) {
				return
			}
		}
	}
}

// invalidDays returns days that are not valid, some of which would be if they had fewer bits.
func invalidDays() []api.Day {
	return []api.Day{
		api.MinDay - 1, api.MaxDay + 1, api.MinDay - 2, api.MaxDay + 2, api.MinDay - 7, api.MaxDay + 7, api.MinDay - 366, api.MaxDay + 366,
		1 << 32, 1<<32 - 1, 1<<32 + 19813, -1 << 32, math.MaxInt32, math.MinInt32, math.MaxInt, math.MinInt, math.MaxInt - 1, math.MinInt + 1, 1 << 62, -1 << 62,
	}
}

// hugeNumbers returns numbers that are no conventions, and more days than there are.
func hugeNumbers() []int {
	return []int{
		math.MinInt, math.MinInt + 1, math.MinInt + 2, math.MaxInt, math.MaxInt - 1, 1 << 32, 1<<32 + 1, 1<<32 + 2, 1<<32 - 1, -1 << 32, -1<<32 + 1, 1 << 62, -1 << 62, 1<<61 + 3,
		math.MinInt32, math.MaxInt32, validDays + 1, -validDays - 1, 2 * validDays, -2 * validDays,
	}
}

// edges returns valid days: those at both ends, at the ends of months, and near holidays.
func edges() []api.Day {
	all := slices.Concat(from(api.MinDay, 35), from(api.MaxDay-34, 35), from(api.MinDay+995, 10), from(api.MaxDay-1004, 10), from(on("2024-11-28"), 36), from(on("2024-07-29"), 4), from(on("2024-10-30"), 4))
	for _, text := range []string{"1970-01-01", "2000-02-29", "2023-01-31", "2023-02-28", "2024-01-31", "2024-02-29", "2024-03-31", "2024-05-31", "2024-08-31", "2024-09-15", "2024-09-30", "2100-02-28"} {
		for d := on(text) - 2; d <= on(text)+2; d++ {
			if valid(d) {
				all = append(all, d)
			}
		}
	}
	slices.Sort(all)
	return slices.Compact(all)
}

// source yields values that differ from run to run in nothing.
type source struct {
	*rand.Rand
}

func newSource(seed int64) source {
	return source{rand.New(rand.NewSource(seed))}
}

// day returns a valid day.
func (s source) day() api.Day {
	return api.MinDay + api.Day(s.Intn(validDays))
}

// weekend returns some weekdays.
func (s source) weekend(n int) []int {
	all := s.Perm(7)[:n]
	slices.Sort(all)
	return all
}

// calendar returns a calendar with holidays anywhere.
func (s source) calendar(weekend, holidays int) api.Calendar {
	var all []api.Day
	for _, i := range s.Perm(validDays)[:holidays] {
		all = append(all, api.MinDay+api.Day(i))
	}
	slices.Sort(all)
	return api.Calendar{Weekend: s.weekend(weekend), Holidays: all}
}

// dense returns a calendar on which most days from some day on are holidays.
func (s source) dense(weekend, holidays int) api.Calendar {
	start := on("2024-01-01") - api.Day(s.Intn(holidays))
	var all []api.Day
	for _, i := range s.Perm(holidays * 5 / 4)[:holidays] {
		all = append(all, start+api.Day(i))
	}
	slices.Sort(all)
	return api.Calendar{Weekend: s.weekend(weekend), Holidays: all}
}

// numbers returns numbers of days to be added.
func (s source) numbers() []int {
	return []int{0, 1, -1, 2, -2, 3, -3, 5, -5, 7, -7, s.Intn(40), -s.Intn(40), s.Intn(1500), -s.Intn(1500), s.Intn(validDays), -s.Intn(validDays), validDays, -validDays, validDays - 1, 1 - validDays}
}

// expectDay returns a function that tests a day and an error.
func expectDay(t *testing.T, want api.Day, code api.Errno) func(api.Day, api.Errno) {
	return func(got api.Day, e api.Errno) {
		t.Helper()
		if got != want || e != code {
			t.Errorf("%s, %d, want %s, %d", textOf(got), e, textOf(want), code)
		}
	}
}

// expectBusiness returns a function that tests whether a day is a business day, and an error.
func expectBusiness(t *testing.T, want bool, code api.Errno) func(bool, api.Errno) {
	return func(got bool, e api.Errno) {
		t.Helper()
		if got != want || e != code {
			t.Errorf("%t, %d, want %t, %d", got, e, want, code)
		}
	}
}

// expectCount returns a function that tests a number of days, and an error.
func expectCount(t *testing.T, want int, code api.Errno) func(int, api.Errno) {
	return func(got int, e api.Errno) {
		t.Helper()
		if got != want || e != code {
			t.Errorf("%d, %d, want %d, %d", got, e, want, code)
		}
	}
}

// expectCalendar returns a function that tests a calendar, and an error.
func expectCalendar(t *testing.T, want api.Calendar, code api.Errno) func(api.Calendar, api.Errno) {
	return func(got api.Calendar, e api.Errno) {
		t.Helper()
		if !equal(got, want) || e != code {
			t.Errorf("%v, %d, want %v, %d", got, e, want, code)
		}
	}
}

// business returns whether a valid day is a business day of a valid calendar.
func business(t *testing.T, c api.Calendar, d api.Day) bool {
	t.Helper()
	is, e := calendar.Business(c, d)
	if e != api.OK {
		t.Fatalf("Business(%s): %d", textOf(d), e)
	}
	return is
}

// count returns the number of business days from a valid day to a later one, or to itself.
func count(t *testing.T, c api.Calendar, a, b api.Day) int {
	t.Helper()
	n, e := calendar.Count(c, api.Period{From: a, To: b})
	if e != api.OK {
		t.Fatalf("Count(%s to %s): %d", textOf(a), textOf(b), e)
	}
	return n
}

// join returns the joint calendar of valid ones that have few holidays.
func join(t *testing.T, a, b api.Calendar) api.Calendar {
	t.Helper()
	c, e := calendar.Join(a, b)
	if e != api.OK {
		t.Fatalf("Join(%v, %v): %d", a, b, e)
	}
	return c
}
