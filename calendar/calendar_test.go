package calendar_test

import (
	"math"
	"slices"
	"testing"

	"tranche/api"
	"tranche/calendar"
)

// P7.1

func TestCheck(t *testing.T) {
	for _, m := range models() {
		if e := calendar.Check(m.Calendar); e != api.OK || calendarError(m.Calendar) != api.OK {
			t.Errorf("%s: %d", m.name, e)
		}
	}
	for _, c := range []api.Calendar{
		{}, {Weekend: []int{}, Holidays: []api.Day{}}, {Weekend: []int{0}}, {Weekend: []int{6}}, {Weekend: []int{0, 6}}, {Weekend: []int{5, 6}}, {Weekend: []int{0, 1, 2, 3, 4, 5, 6}},
		{Holidays: []api.Day{api.MinDay}}, {Holidays: []api.Day{api.MaxDay}}, {Holidays: []api.Day{api.MinDay, api.MaxDay}}, {Holidays: []api.Day{-1, 0, 1}}, {Weekend: []int{5, 6}, Holidays: holidaysOnWeekends()},
		{Holidays: from(0, api.MaxHolidays)}, {Holidays: from(api.MinDay, api.MaxHolidays)}, {Holidays: from(api.MaxDay-api.MaxHolidays+1, api.MaxHolidays)},
	} {
		if e := calendar.Check(c); e != api.OK {
			t.Errorf("Check(%v) = %d", c, e)
		}
	}
	for c, want := range invalidCalendars() {
		if e := calendar.Check(c); e != want || calendarError(c) != want {
			t.Errorf("Check(%v) = %d, want %d", c, e, want)
		}
	}
}

// TestCheckOfShortLists compares with the definition for all short lists of some weekdays, and of some days.
func TestCheckOfShortLists(t *testing.T) {
	weekdays := []int{-1, 0, 1, 5, 6, 7}
	holidays := []api.Day{api.MinDay - 1, api.MinDay, 0, api.MaxDay, api.MaxDay + 1}
	for i := range 7 * 7 * 7 * 6 * 6 * 6 {
		var c api.Calendar
		for range 3 {
			if at := i % 7; at < len(weekdays) {
				c.Weekend = append(c.Weekend, weekdays[at])
			}
			i /= 7
		}
		for range 3 {
			if at := i % 6; at < len(holidays) {
				c.Holidays = append(c.Holidays, holidays[at])
			}
			i /= 6
		}
		if e := calendar.Check(c); e != calendarError(c) {
			t.Fatalf("Check(%v) = %d, want %d", c, e, calendarError(c))
		}
	}
}

// TestExamples tests the examples of the chapter.
func TestExamples(t *testing.T) {
	c := christmas()
	expectBusiness(t, false, api.OK)(calendar.Business(c, on("2024-12-25")))
	expectDay(t, on("2024-12-26"), api.OK)(calendar.Next(c, on("2024-12-25")))
	expectDay(t, on("2024-12-27"), api.OK)(calendar.Add(c, on("2024-12-24"), 2))
	expectDay(t, on("2024-12-02"), api.OK)(calendar.Adjust(c, on("2024-11-30"), api.Following))
	expectDay(t, on("2024-11-29"), api.OK)(calendar.Adjust(c, on("2024-11-30"), api.Modified))
	expectCount(t, 4, api.OK)(calendar.Count(c, api.Period{From: on("2024-12-23"), To: on("2024-12-30")}))
}

func TestBusiness(t *testing.T) {
	for _, c := range []struct {
		weekend  []int
		holidays []string
		text     string
		want     bool
	}{
		{nil, nil, "2024-12-25", true}, {nil, nil, "1900-01-01", true}, {nil, nil, "2199-12-31", true}, {[]int{5, 6}, nil, "2024-12-27", true}, {[]int{5, 6}, nil, "2024-12-28", false}, {[]int{5, 6}, nil, "2024-12-29", false}, {[]int{5, 6}, nil, "2024-12-30", true},
		{[]int{0}, nil, "1900-01-01", false}, {[]int{0}, nil, "1900-01-02", true}, {[]int{1}, nil, "2199-12-31", false}, {[]int{1}, nil, "2199-12-30", true}, {[]int{3}, nil, "1970-01-01", false}, {[]int{2}, nil, "1969-12-31", false}, {[]int{2}, nil, "1970-01-01", true},
		{nil, []string{"2024-12-25"}, "2024-12-25", false}, {nil, []string{"2024-12-25"}, "2024-12-24", true}, {nil, []string{"2024-12-25"}, "2024-12-26", true}, {nil, []string{"1900-01-01", "2199-12-31"}, "1900-01-01", false}, {nil, []string{"1900-01-01", "2199-12-31"}, "2199-12-31", false}, {nil, []string{"1900-01-01", "2199-12-31"}, "2000-01-01", true},
		{[]int{5, 6}, []string{"2024-12-28"}, "2024-12-28", false}, {[]int{5, 6}, []string{"2024-12-28"}, "2024-12-29", false}, {[]int{5, 6}, []string{"2024-12-28"}, "2024-12-30", true},
		{[]int{0, 1, 2, 3, 4, 5, 6}, nil, "2024-12-25", false}, {[]int{0, 1, 3, 4, 5, 6}, nil, "2024-12-25", true}, {[]int{0, 1, 3, 4, 5, 6}, []string{"2024-12-25"}, "2024-12-25", false},
	} {
		expectBusiness(t, c.want, api.OK)(calendar.Business(api.Calendar{Weekend: c.weekend, Holidays: days(c.holidays...)}, on(c.text)))
	}
}

func TestNextAndPrevious(t *testing.T) {
	for _, c := range []struct{ text, next, previous string }{
		{"2024-12-24", "2024-12-24", "2024-12-24"}, {"2024-12-25", "2024-12-26", "2024-12-24"}, {"2024-12-26", "2024-12-26", "2024-12-26"}, {"2024-12-28", "2024-12-30", "2024-12-27"}, {"2024-12-29", "2024-12-30", "2024-12-27"}, {"2024-12-30", "2024-12-30", "2024-12-30"},
		{"1900-01-01", "1900-01-01", "1900-01-01"}, {"2199-12-31", "2199-12-31", "2199-12-31"}, {"1900-01-06", "1900-01-08", "1900-01-05"}, {"2199-12-28", "2199-12-30", "2199-12-27"}, {"2024-08-31", "2024-09-02", "2024-08-30"},
	} {
		expectDay(t, on(c.next), api.OK)(calendar.Next(christmas(), on(c.text)))
		expectDay(t, on(c.previous), api.OK)(calendar.Previous(christmas(), on(c.text)))
	}
}

// TestNoDayAtTheEnds tests days from which there is no business day up to MaxDay, or down to MinDay.
func TestNoDayAtTheEnds(t *testing.T) {
	first := api.Calendar{Holidays: from(api.MinDay, api.MaxHolidays)}
	last := api.Calendar{Holidays: from(api.MaxDay-api.MaxHolidays+1, api.MaxHolidays)}
	for _, d := range []api.Day{api.MinDay, api.MinDay + 1, api.MinDay + api.MaxHolidays - 1} {
		expectDay(t, api.MinDay+api.MaxHolidays, api.OK)(calendar.Next(first, d))
		expectDay(t, 0, api.ErrDay)(calendar.Previous(first, d))
		expectDay(t, 0, api.ErrDay)(calendar.Adjust(first, d, api.Preceding))
		expectDay(t, 0, api.ErrDay)(calendar.Add(first, d, -1))
		expectDay(t, api.MinDay+api.MaxHolidays, api.OK)(calendar.Add(first, d, 0))
	}
	expectDay(t, api.MinDay+api.MaxHolidays, api.OK)(calendar.Previous(first, api.MinDay+api.MaxHolidays))
	expectDay(t, 0, api.ErrDay)(calendar.Add(first, api.MinDay+api.MaxHolidays, -1))
	for _, d := range []api.Day{api.MaxDay, api.MaxDay - 1, api.MaxDay - api.MaxHolidays + 1} {
		expectDay(t, api.MaxDay-api.MaxHolidays, api.OK)(calendar.Previous(last, d))
		expectDay(t, 0, api.ErrDay)(calendar.Next(last, d))
		expectDay(t, 0, api.ErrDay)(calendar.Adjust(last, d, api.Following))
		expectDay(t, 0, api.ErrDay)(calendar.Add(last, d, 0))
		expectDay(t, 0, api.ErrDay)(calendar.Add(last, d, 1))
	}
	expectDay(t, api.MaxDay-api.MaxHolidays, api.OK)(calendar.Next(last, api.MaxDay-api.MaxHolidays))
	expectDay(t, 0, api.ErrDay)(calendar.Add(last, api.MaxDay-api.MaxHolidays, 1))
	// The last valid days are a Monday and a Tuesday, and the first one is a Monday.
	for weekend, d := range map[int]api.Day{0: api.MinDay, 1: api.MaxDay} {
		c := api.Calendar{Weekend: []int{weekend}}
		next, previous := calendar.Next, calendar.Previous
		if d == api.MinDay {
			next, previous = previous, next
		}
		expectDay(t, 0, api.ErrDay)(next(c, d))
		if got, e := previous(c, d); e != api.OK || got != api.MinDay+1 && got != api.MaxDay-1 {
			t.Errorf("beside %d: %d, %d", d, got, e)
		}
	}
}

func TestNoBusinessDay(t *testing.T) {
	for _, d := range edges() {
		expectBusiness(t, false, api.OK)(calendar.Business(never(), d))
		expectDay(t, 0, api.ErrDay)(calendar.Next(never(), d))
		expectDay(t, 0, api.ErrDay)(calendar.Previous(never(), d))
		expectDay(t, d, api.OK)(calendar.Adjust(never(), d, api.Unadjusted))
		for _, convention := range []int{api.Following, api.Modified, api.Preceding} {
			expectDay(t, 0, api.ErrDay)(calendar.Adjust(never(), d, convention))
		}
		for _, n := range []int{0, 1, -1, 1000, -1000} {
			expectDay(t, 0, api.ErrDay)(calendar.Add(never(), d, n))
		}
		expectCount(t, 0, api.OK)(calendar.Count(never(), api.Period{From: api.MinDay, To: d}))
	}
}

func TestAdjust(t *testing.T) {
	for _, c := range []struct{ text, following, modified, preceding string }{
		{"2024-12-24", "2024-12-24", "2024-12-24", "2024-12-24"}, {"2024-12-25", "2024-12-26", "2024-12-26", "2024-12-24"}, {"2024-12-28", "2024-12-30", "2024-12-30", "2024-12-27"}, {"2024-12-29", "2024-12-30", "2024-12-30", "2024-12-27"},
		{"2024-11-29", "2024-11-29", "2024-11-29", "2024-11-29"}, {"2024-11-30", "2024-12-02", "2024-11-29", "2024-11-29"}, {"2024-12-01", "2024-12-02", "2024-12-02", "2024-11-29"}, {"2024-03-30", "2024-04-01", "2024-03-29", "2024-03-29"}, {"2024-03-31", "2024-04-01", "2024-03-29", "2024-03-29"},
		{"2024-06-01", "2024-06-03", "2024-06-03", "2024-05-31"}, {"2023-12-30", "2024-01-01", "2023-12-29", "2023-12-29"}, {"2023-12-31", "2024-01-01", "2023-12-29", "2023-12-29"}, {"2022-12-31", "2023-01-02", "2022-12-30", "2022-12-30"}, {"2020-02-29", "2020-03-02", "2020-02-28", "2020-02-28"},
		{"1900-01-01", "1900-01-01", "1900-01-01", "1900-01-01"}, {"2199-12-31", "2199-12-31", "2199-12-31", "2199-12-31"}, {"2199-12-29", "2199-12-30", "2199-12-30", "2199-12-27"}, {"2199-11-30", "2199-12-02", "2199-11-29", "2199-11-29"},
	} {
		d := on(c.text)
		expectDay(t, d, api.OK)(calendar.Adjust(christmas(), d, api.Unadjusted))
		expectDay(t, on(c.following), api.OK)(calendar.Adjust(christmas(), d, api.Following))
		expectDay(t, on(c.modified), api.OK)(calendar.Adjust(christmas(), d, api.Modified))
		expectDay(t, on(c.preceding), api.OK)(calendar.Adjust(christmas(), d, api.Preceding))
	}
}

// TestModifiedInClosedMonths tests months without a business day, and months that end without one.
func TestModifiedInClosedMonths(t *testing.T) {
	for _, c := range []struct {
		closed     []api.Day
		text, want string
	}{
		// Without a business day in the month, it is the last one before the month.
		{monthDays("2024-02-01"), "2024-02-01", "2024-01-31"}, {monthDays("2024-02-01"), "2024-02-15", "2024-01-31"}, {monthDays("2024-02-01"), "2024-02-29", "2024-01-31"},
		{append([]api.Day{on("2024-01-31")}, monthDays("2024-02-01")...), "2024-02-29", "2024-01-30"}, {slices.Concat(monthDays("2024-01-01"), monthDays("2024-02-01")), "2024-02-29", "2023-12-31"},
		{monthDays("2199-12-01"), "2199-12-31", "2199-11-30"}, {monthDays("2199-12-01"), "2199-12-01", "2199-11-30"},
		// The same month of the next year, and the next month of the same year, are other months.
		{from(on("2024-02-15"), 366), "2024-02-20", "2024-02-14"}, {from(on("2024-02-15"), 17), "2024-02-20", "2024-02-14"}, {from(on("2024-02-01"), 366), "2024-02-20", "2024-01-31"},
		// The last day of the month is a business day, or the first one is.
		{from(on("2024-02-01"), 28), "2024-02-01", "2024-02-29"}, {from(on("2024-02-02"), 28), "2024-02-29", "2024-02-01"}, {from(on("2024-02-02"), 28), "2024-02-02", "2024-02-01"}, {from(on("2024-02-29"), 1), "2024-02-29", "2024-02-28"}, {from(on("2023-02-28"), 1), "2023-02-28", "2023-02-27"},
		{from(api.MaxDay-9, 10), "2199-12-31", "2199-12-21"}, {from(api.MinDay, 10), "1900-01-01", "1900-01-11"}, {from(api.MinDay, 30), "1900-01-01", "1900-01-31"},
	} {
		expectDay(t, on(c.want), api.OK)(calendar.Adjust(api.Calendar{Holidays: c.closed}, on(c.text), api.Modified))
	}
	// In the first month that is valid, there is no business day before it, even though there is one behind it.
	first := api.Calendar{Holidays: monthDays("1900-01-01")[:31]}
	expectDay(t, 0, api.ErrDay)(calendar.Adjust(first, on("1900-01-20"), api.Modified))
	expectDay(t, on("1900-02-01"), api.OK)(calendar.Adjust(first, on("1900-01-20"), api.Following))
}

func TestAdd(t *testing.T) {
	for _, c := range []struct {
		text string
		n    int
		want string
	}{
		{"2024-12-24", 0, "2024-12-24"}, {"2024-12-24", 1, "2024-12-26"}, {"2024-12-24", 2, "2024-12-27"}, {"2024-12-24", 3, "2024-12-30"}, {"2024-12-24", -1, "2024-12-23"}, {"2024-12-24", -2, "2024-12-20"}, {"2024-12-26", -1, "2024-12-24"}, {"2024-12-30", -3, "2024-12-24"},
		{"2024-12-25", 0, "2024-12-26"}, {"2024-12-25", 1, "2024-12-26"}, {"2024-12-25", 2, "2024-12-27"}, {"2024-12-25", -1, "2024-12-24"}, {"2024-12-25", -2, "2024-12-23"}, {"2024-12-28", 0, "2024-12-30"}, {"2024-12-28", 1, "2024-12-30"}, {"2024-12-28", 2, "2024-12-31"}, {"2024-12-29", -1, "2024-12-27"}, {"2024-12-29", -2, "2024-12-26"},
		{"2024-01-01", 5, "2024-01-08"}, {"2024-01-01", 260, "2024-12-31"}, {"2024-12-31", -260, "2024-01-01"}, {"2024-01-01", 257, "2024-12-26"}, {"1900-01-01", 1, "1900-01-02"}, {"2199-12-31", -1, "2199-12-30"}, {"2199-12-30", 1, "2199-12-31"}, {"1900-01-02", -1, "1900-01-01"}, {"2199-12-28", 2, "2199-12-31"}, {"1900-01-07", -5, "1900-01-01"},
	} {
		expectDay(t, on(c.want), api.OK)(calendar.Add(christmas(), on(c.text), c.n))
	}
	expectDay(t, api.MaxDay, api.OK)(calendar.Add(api.Calendar{}, api.MinDay, validDays-1))
	expectDay(t, api.MinDay, api.OK)(calendar.Add(api.Calendar{}, api.MaxDay, 1-validDays))
}

// TestAddTooMuch tests numbers of days that lead behind MaxDay, or before MinDay.
func TestAddTooMuch(t *testing.T) {
	for _, c := range []struct {
		d api.Day
		n int
	}{
		{api.MaxDay, 1}, {api.MinDay, -1}, {api.MaxDay - 1, 2}, {api.MinDay + 1, -2}, {api.MinDay, validDays}, {api.MaxDay, -validDays}, {api.MinDay, -validDays}, {api.MaxDay, validDays}, {0, validDays - 1}, {0, 1 - validDays}, {on("2199-12-28"), 5}, {on("1900-01-06"), -6},
	} {
		expectDay(t, 0, api.ErrDay)(calendar.Add(api.Calendar{}, c.d, c.n))
	}
	for _, d := range []api.Day{api.MinDay, -1, 0, 19813, api.MaxDay} {
		for _, n := range hugeNumbers() {
			expectDay(t, 0, api.ErrDay)(calendar.Add(api.Calendar{}, d, n))
			expectDay(t, 0, api.ErrDay)(calendar.Add(christmas(), d, n))
		}
	}
}

func TestCount(t *testing.T) {
	for _, c := range []struct {
		from, to string
		want     int
	}{
		{"2024-12-23", "2024-12-30", 4}, {"2024-12-23", "2024-12-23", 0}, {"2024-12-23", "2024-12-24", 1}, {"2024-12-24", "2024-12-25", 1}, {"2024-12-25", "2024-12-26", 0}, {"2024-12-25", "2024-12-25", 0}, {"2024-12-26", "2024-12-27", 1}, {"2024-12-28", "2024-12-30", 0}, {"2024-12-28", "2024-12-31", 1}, {"2024-12-27", "2024-12-29", 1},
		{"2024-01-01", "2025-01-01", 261}, {"2023-01-01", "2024-01-01", 260}, {"1900-01-01", "1900-01-01", 0}, {"1900-01-01", "1900-01-02", 1}, {"1900-01-01", "1900-01-08", 5},
		{"2199-12-31", "2199-12-31", 0}, {"2199-12-30", "2199-12-31", 1}, {"2199-12-28", "2199-12-31", 1}, {"2199-12-24", "2199-12-31", 5}, {"2199-12-25", "2199-12-31", 4},
	} {
		expectCount(t, c.want, api.OK)(calendar.Count(christmas(), api.Period{From: on(c.from), To: on(c.to)}))
	}
	expectCount(t, validDays-1, api.OK)(calendar.Count(api.Calendar{}, api.Period{From: api.MinDay, To: api.MaxDay}))
	expectCount(t, 0, api.OK)(calendar.Count(api.Calendar{}, api.Period{From: api.MaxDay, To: api.MaxDay}))
	expectCount(t, 1, api.OK)(calendar.Count(api.Calendar{}, api.Period{From: api.MaxDay - 1, To: api.MaxDay}))
	expectCount(t, 0, api.OK)(calendar.Count(api.Calendar{Holidays: []api.Day{api.MaxDay - 1}}, api.Period{From: api.MaxDay - 1, To: api.MaxDay}))
}

func TestJoin(t *testing.T) {
	low, high := from(0, api.MaxHolidays), from(500, api.MaxHolidays)
	for _, c := range []struct {
		a, b, want api.Calendar
	}{
		{api.Calendar{}, api.Calendar{}, api.Calendar{}}, {christmas(), api.Calendar{}, christmas()}, {christmas(), christmas(), christmas()}, {never(), christmas(), api.Calendar{Weekend: never().Weekend, Holidays: christmas().Holidays}},
		{api.Calendar{Weekend: []int{5, 6}}, api.Calendar{Weekend: []int{4, 5}}, api.Calendar{Weekend: []int{4, 5, 6}}}, {api.Calendar{Weekend: []int{0, 6}}, api.Calendar{Weekend: []int{3}}, api.Calendar{Weekend: []int{0, 3, 6}}}, {api.Calendar{Weekend: []int{1, 3, 5}}, api.Calendar{Weekend: []int{0, 2, 4, 6}}, never()},
		{christmas(), api.Calendar{Weekend: []int{4}, Holidays: days("2024-12-24", "2024-12-25", "2024-12-26")}, api.Calendar{Weekend: []int{4, 5, 6}, Holidays: days("2024-12-24", "2024-12-25", "2024-12-26")}},
		{api.Calendar{Holidays: []api.Day{api.MinDay, 5}}, api.Calendar{Holidays: []api.Day{-5, api.MaxDay}}, api.Calendar{Holidays: []api.Day{api.MinDay, -5, 5, api.MaxDay}}}, {api.Calendar{Holidays: from(10, 5)}, api.Calendar{Holidays: from(0, 12)}, api.Calendar{Holidays: from(0, 15)}},
		// A holiday on a weekend of the other calendar remains a holiday.
		{api.Calendar{Weekend: []int{5, 6}}, api.Calendar{Holidays: holidaysOnWeekends()}, api.Calendar{Weekend: []int{5, 6}, Holidays: holidaysOnWeekends()}}, {never(), api.Calendar{Holidays: low}, api.Calendar{Weekend: never().Weekend, Holidays: low}},
		// Holidays that are in both count once.
		{api.Calendar{Holidays: low}, api.Calendar{Holidays: low}, api.Calendar{Holidays: low}}, {api.Calendar{Holidays: low}, api.Calendar{Holidays: low[300:700]}, api.Calendar{Holidays: low}}, {api.Calendar{Holidays: low[:700]}, api.Calendar{Holidays: low[300:]}, api.Calendar{Holidays: low}}, {api.Calendar{Holidays: low[:500]}, api.Calendar{Holidays: low[500:]}, api.Calendar{Holidays: low}},
	} {
		expectCalendar(t, c.want, api.OK)(calendar.Join(c.a, c.b))
		expectCalendar(t, c.want, api.OK)(calendar.Join(c.b, c.a))
	}
	for _, c := range [][2][]api.Day{{low, high}, {low, from(api.MaxHolidays, 1)}, {low, from(-1, 1)}, {low[:501], high[:502]}, {low, []api.Day{api.MaxDay}}, {low, from(20000, api.MaxHolidays)}, {from(0, 501), from(600, 500)}} {
		expectCalendar(t, api.Calendar{}, api.ErrLimit)(calendar.Join(api.Calendar{Weekend: []int{5, 6}, Holidays: c[0]}, api.Calendar{Weekend: []int{5, 6}, Holidays: c[1]}))
		expectCalendar(t, api.Calendar{}, api.ErrLimit)(calendar.Join(api.Calendar{Holidays: c[1]}, api.Calendar{Holidays: c[0]}))
	}
}

// TestInvalidCalendars tests that a calendar that is not valid comes before all other errors.
func TestInvalidCalendars(t *testing.T) {
	for c := range invalidCalendars() {
		for _, d := range append(invalidDays(), api.MinDay, 0, on("2024-12-25"), api.MaxDay) {
			expectBusiness(t, false, api.ErrArgument)(calendar.Business(c, d))
			expectDay(t, 0, api.ErrArgument)(calendar.Next(c, d))
			expectDay(t, 0, api.ErrArgument)(calendar.Previous(c, d))
			for _, n := range []int{-1, 0, 1, 2, 3, 4, 5, math.MinInt} {
				expectDay(t, 0, api.ErrArgument)(calendar.Adjust(c, d, n))
				expectDay(t, 0, api.ErrArgument)(calendar.Add(c, d, n))
			}
			expectCount(t, 0, api.ErrArgument)(calendar.Count(c, api.Period{From: d, To: 0}))
			expectCount(t, 0, api.ErrArgument)(calendar.Count(c, api.Period{From: 0, To: d}))
		}
		for _, other := range []api.Calendar{{}, christmas(), never(), c, {Holidays: from(api.MinDay+5, api.MaxHolidays)}} {
			expectCalendar(t, api.Calendar{}, api.ErrArgument)(calendar.Join(c, other))
			expectCalendar(t, api.Calendar{}, api.ErrArgument)(calendar.Join(other, c))
		}
	}
}

// TestInvalidDays tests that a day that is not valid comes before a convention
// that there is not, a day that there is not, and the order of a period.
func TestInvalidDays(t *testing.T) {
	for _, c := range []api.Calendar{{}, christmas(), never()} {
		for _, d := range invalidDays() {
			expectBusiness(t, false, api.ErrDay)(calendar.Business(c, d))
			expectDay(t, 0, api.ErrDay)(calendar.Next(c, d))
			expectDay(t, 0, api.ErrDay)(calendar.Previous(c, d))
			for _, n := range append(hugeNumbers(), -1, 0, 1, 2, 3, 4, 5) {
				expectDay(t, 0, api.ErrDay)(calendar.Adjust(c, d, n))
				expectDay(t, 0, api.ErrDay)(calendar.Add(c, d, n))
			}
			for _, other := range append(invalidDays(), api.MinDay, -1, 0, 1, api.MaxDay) {
				expectCount(t, 0, api.ErrDay)(calendar.Count(c, api.Period{From: d, To: other}))
				expectCount(t, 0, api.ErrDay)(calendar.Count(c, api.Period{From: other, To: d}))
			}
		}
	}
}

func TestUnknownConventions(t *testing.T) {
	for _, c := range []api.Calendar{{}, christmas(), never(), {Holidays: from(api.MaxDay-9, 10)}} {
		for _, d := range []api.Day{api.MinDay, 0, on("2024-12-25"), api.MaxDay} {
			// The convention comes before the day that there is not.
			for _, convention := range append(hugeNumbers(), -2, -1, 0, 5, 6, 7, 255, 256, 257, 258, 65537) {
				expectDay(t, 0, api.ErrKind)(calendar.Adjust(c, d, convention))
			}
		}
	}
}

func TestPeriodsInTheWrongOrder(t *testing.T) {
	for _, c := range []api.Calendar{{}, christmas(), never()} {
		for _, p := range []api.Period{{From: 1, To: 0}, {From: 0, To: -1}, {From: api.MaxDay, To: api.MinDay}, {From: api.MaxDay, To: api.MaxDay - 1}, {From: api.MinDay + 1, To: api.MinDay}, {From: on("2024-12-26"), To: on("2024-12-25")}} {
			expectCount(t, 0, api.ErrOrder)(calendar.Count(c, p))
		}
	}
}

// expectAll compares the functions of one day with the definitions.
func expectAll(t *testing.T, m model, d api.Day) {
	t.Helper()
	if got, e := calendar.Business(m.Calendar, d); got != m.open(d) || e != api.OK {
		t.Fatalf("%s: Business(%s) = %t, %d", m.name, textOf(d), got, e)
	}
	want, code := m.next(d)
	if got, e := calendar.Next(m.Calendar, d); got != want || e != code {
		t.Fatalf("%s: Next(%s) = %s, %d, want %s, %d", m.name, textOf(d), textOf(got), e, textOf(want), code)
	}
	want, code = m.previous(d)
	if got, e := calendar.Previous(m.Calendar, d); got != want || e != code {
		t.Fatalf("%s: Previous(%s) = %s, %d, want %s, %d", m.name, textOf(d), textOf(got), e, textOf(want), code)
	}
	for convention := -1; convention <= 6; convention++ {
		want, code := m.adjusted(d, convention)
		if got, e := calendar.Adjust(m.Calendar, d, convention); got != want || e != code {
			t.Fatalf("%s: Adjust(%s, %d) = %s, %d, want %s, %d", m.name, textOf(d), convention, textOf(got), e, textOf(want), code)
		}
	}
}

// TestEveryDay compares with the definitions for all days, where this does not take long.
func TestEveryDay(t *testing.T) {
	for _, m := range ordinary()[:4] {
		for d := api.Day(api.MinDay); d <= api.MaxDay; d++ {
			expectAll(t, m, d)
		}
	}
}

// TestSomeDays compares with the definitions at the edges and elsewhere, for all calendars.
func TestSomeDays(t *testing.T) {
	s := newSource(2)
	for _, m := range models() {
		for _, d := range edges() {
			expectAll(t, m, d)
		}
		for range 100 {
			expectAll(t, m, s.day())
		}
	}
}

func TestSums(t *testing.T) {
	s := newSource(3)
	for _, m := range models() {
		some := []api.Day{api.MinDay, api.MinDay + 1, api.MinDay + 1000, api.MaxDay - 1000, api.MaxDay - 1, api.MaxDay, 0, on("2024-11-30"), on("2024-12-25")}
		for range 10 {
			some = append(some, s.day())
		}
		for _, d := range some {
			for _, n := range s.numbers() {
				want, code := m.added(d, n)
				if got, e := calendar.Add(m.Calendar, d, n); got != want || e != code {
					t.Fatalf("%s: Add(%s, %d) = %s, %d, want %s, %d", m.name, textOf(d), n, textOf(got), e, textOf(want), code)
				}
			}
		}
	}
}

func TestCounts(t *testing.T) {
	s := newSource(4)
	for _, m := range models() {
		for range 30 {
			a := s.day()
			for _, b := range []api.Day{s.day(), min(a+api.Day(s.Intn(30)), api.MaxDay), a, api.MaxDay, api.MinDay} {
				p := api.Period{From: min(a, b), To: max(a, b)}
				if got, e := calendar.Count(m.Calendar, p); got != m.count(p) || e != api.OK {
					t.Fatalf("%s: Count(%s to %s) = %d, %d, want %d", m.name, textOf(p.From), textOf(p.To), got, e, m.count(p))
				}
			}
		}
	}
}

func TestJoins(t *testing.T) {
	all := models()
	for _, a := range all {
		for _, b := range all {
			want, code := joined(a.Calendar, b.Calendar)
			expectCalendar(t, want, code)(calendar.Join(a.Calendar, b.Calendar))
		}
	}
	s := newSource(5)
	limits := 0
	for range 200 {
		a, b := s.calendar(s.Intn(8), s.Intn(api.MaxHolidays+1)), s.dense(s.Intn(8), 1+s.Intn(api.MaxHolidays))
		want, code := joined(a, b)
		if code == api.ErrLimit {
			limits++
		}
		expectCalendar(t, want, code)(calendar.Join(a, b))
	}
	if limits < 20 || limits > 180 {
		t.Errorf("%d of 200 calendars have too many holidays", limits)
	}
}
