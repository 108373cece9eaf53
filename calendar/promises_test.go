package calendar_test

import (
	"slices"
	"testing"

	"tranche/api"
	"tranche/calendar"
)

// P7.2

// TestNoBusinessDayBetween tests that Next and Previous lead to business days, and none is between.
func TestNoBusinessDayBetween(t *testing.T) {
	for _, m := range models() {
		for _, d := range edges() {
			next, e := calendar.Next(m.Calendar, d)
			end := next
			if e != api.OK {
				expectDay(t, 0, api.ErrDay)(next, e)
				end = api.MaxDay + 1
			} else if next < d || !business(t, m.Calendar, next) {
				t.Fatalf("%s: Next(%s) = %s", m.name, textOf(d), textOf(next))
			}
			// A year of days is enough to see that they are no business days.
			for between := d; between < min(end, d+366); between++ {
				if business(t, m.Calendar, between) {
					t.Fatalf("%s: Next(%s) = %s, behind %s", m.name, textOf(d), textOf(next), textOf(between))
				}
			}
			previous, e := calendar.Previous(m.Calendar, d)
			end = previous
			if e != api.OK {
				expectDay(t, 0, api.ErrDay)(previous, e)
				end = api.MinDay - 1
			} else if previous > d || !business(t, m.Calendar, previous) {
				t.Fatalf("%s: Previous(%s) = %s", m.name, textOf(d), textOf(previous))
			}
			for between := d; between > max(end, d-366); between-- {
				if business(t, m.Calendar, between) {
					t.Fatalf("%s: Previous(%s) = %s, before %s", m.name, textOf(d), textOf(previous), textOf(between))
				}
			}
		}
	}
}

func TestBusinessDaysRemain(t *testing.T) {
	for _, m := range ordinary() {
		for i := 0; i < len(m.all); i += 1 + len(m.all)/300 {
			d := m.all[i]
			expectDay(t, d, api.OK)(calendar.Next(m.Calendar, d))
			expectDay(t, d, api.OK)(calendar.Previous(m.Calendar, d))
			expectDay(t, d, api.OK)(calendar.Add(m.Calendar, d, 0))
		}
	}
}

// P7.3

// TestConventions tests that all conventions lead to business days, where they
// remain, and that Modified remains in the month, if this has a business day.
func TestConventions(t *testing.T) {
	for _, m := range models() {
		for _, d := range edges() {
			expectDay(t, d, api.OK)(calendar.Adjust(m.Calendar, d, api.Unadjusted))
			for _, convention := range []int{api.Following, api.Modified, api.Preceding} {
				got, e := calendar.Adjust(m.Calendar, d, convention)
				if e != api.OK {
					expectDay(t, 0, api.ErrDay)(got, e)
					continue
				}
				if !business(t, m.Calendar, got) || convention == api.Following && got < d || convention == api.Preceding && got > d {
					t.Fatalf("%s: Adjust(%s, %d) = %s", m.name, textOf(d), convention, textOf(got))
				}
				for _, again := range []int{api.Unadjusted, api.Following, api.Modified, api.Preceding} {
					expectDay(t, got, api.OK)(calendar.Adjust(m.Calendar, got, again))
				}
			}
			modified, e := calendar.Adjust(m.Calendar, d, api.Modified)
			if m.monthIsOpen(d) && (e != api.OK || !sameMonth(modified, d)) {
				t.Fatalf("%s: Adjust(%s, Modified) = %s, %d", m.name, textOf(d), textOf(modified), e)
			}
		}
	}
}

// P7.4

func TestAddingThereAndBack(t *testing.T) {
	s := newSource(6)
	compared := 0
	for _, m := range ordinary() {
		for range 15 {
			d := m.all[s.Intn(len(m.all))]
			for _, n := range s.numbers() {
				there, e := calendar.Add(m.Calendar, d, n)
				if e != api.OK {
					expectDay(t, 0, api.ErrDay)(there, e)
					continue
				}
				compared++
				if got, e := calendar.Add(m.Calendar, there, -n); got != d || e != api.OK {
					t.Fatalf("%s: %s and %d days is %s, and back it is %s, %d", m.name, textOf(d), n, textOf(there), textOf(got), e)
				}
			}
		}
	}
	if compared < 2000 {
		t.Fatalf("only %d sums were compared", compared)
	}
}

// TestAddingOneByOne tests that n days are added as n times one day, also from days that are no business days.
func TestAddingOneByOne(t *testing.T) {
	s := newSource(7)
	for _, m := range models() {
		for _, step := range []int{1, -1} {
			for _, d := range []api.Day{api.MinDay, api.MaxDay, api.MinDay + 20, api.MaxDay - 20, on("2024-12-25"), on("2024-11-30"), on("2024-09-15"), s.day(), s.day()} {
				day, e := d, api.OK
				for n := step; n >= -40 && n <= 40 && e == api.OK; n += step {
					day, e = calendar.Add(m.Calendar, day, step)
					if got, code := calendar.Add(m.Calendar, d, n); got != day || code != e {
						t.Fatalf("%s: Add(%s, %d) = %s, %d, want %s, %d", m.name, textOf(d), n, textOf(got), code, textOf(day), e)
					}
				}
			}
		}
	}
}

// P7.5

func TestSuccessivePeriods(t *testing.T) {
	s := newSource(8)
	for _, m := range models() {
		for range 20 {
			l := []api.Day{s.day(), s.day(), s.day(), api.MinDay, api.MaxDay}
			slices.Sort(l)
			sum := 0
			for i, d := range l[1:] {
				sum += count(t, m.Calendar, l[i], d)
			}
			if sum != count(t, m.Calendar, l[0], l[4]) || sum != m.count(api.Period{From: api.MinDay, To: api.MaxDay}) {
				t.Fatalf("%s: the counts between %v have the sum %d", m.name, l, sum)
			}
			if n := count(t, m.Calendar, l[2], l[2]); n != 0 {
				t.Fatalf("%s: %d business days from %s to itself", m.name, n, textOf(l[2]))
			}
		}
	}
}

// TestCountsOfDays tests that a period of one day has one business day, if this is one.
func TestCountsOfDays(t *testing.T) {
	for _, m := range models() {
		for _, d := range edges() {
			if d == api.MaxDay {
				continue
			}
			if n := count(t, m.Calendar, d, d+1); (n == 1) != business(t, m.Calendar, d) || n < 0 || n > 1 {
				t.Fatalf("%s: %d business days on %s", m.name, n, textOf(d))
			}
		}
	}
}

func TestCountsOfSums(t *testing.T) {
	s := newSource(9)
	for _, m := range ordinary() {
		for range 20 {
			d := m.all[s.Intn(len(m.all))]
			for _, n := range s.numbers() {
				later, e := calendar.Add(m.Calendar, d, n)
				if n < 0 || e != api.OK {
					continue
				}
				if got := count(t, m.Calendar, d, later); got != n {
					t.Fatalf("%s: %d business days from %s to %s, want %d", m.name, got, textOf(d), textOf(later), n)
				}
			}
		}
	}
}

// P7.6

func TestBusinessDaysOfBoth(t *testing.T) {
	all := models()
	for _, a := range all {
		for _, b := range all {
			c, e := calendar.Join(a.Calendar, b.Calendar)
			if e == api.ErrLimit {
				continue
			}
			if e != api.OK || calendar.Check(c) != api.OK {
				t.Fatalf("%s and %s: %d", a.name, b.name, e)
			}
			for _, d := range edges() {
				if business(t, c, d) != (business(t, a.Calendar, d) && business(t, b.Calendar, d)) {
					t.Fatalf("%s and %s: %s", a.name, b.name, textOf(d))
				}
			}
		}
	}
}

func TestBusinessDaysOfBothOnEveryDay(t *testing.T) {
	a := api.Calendar{Weekend: []int{5, 6}, Holidays: days("1900-01-01", "2024-12-25", "2024-12-28", "2199-12-31")}
	b := api.Calendar{Weekend: []int{4}, Holidays: days("2024-12-24", "2024-12-25")}
	c := join(t, a, b)
	for d := api.Day(api.MinDay); d <= api.MaxDay; d++ {
		if business(t, c, d) != (business(t, a, d) && business(t, b, d)) {
			t.Fatal(textOf(d))
		}
	}
}

func TestJoiningIsCommutative(t *testing.T) {
	all := models()
	for _, a := range all {
		for _, b := range all {
			want, code := calendar.Join(a.Calendar, b.Calendar)
			expectCalendar(t, want, code)(calendar.Join(b.Calendar, a.Calendar))
		}
	}
}

func TestJoiningWithItself(t *testing.T) {
	for _, m := range models() {
		expectCalendar(t, m.Calendar, api.OK)(calendar.Join(m.Calendar, m.Calendar))
		if c := join(t, m.Calendar, api.Calendar{}); !equal(c, m.Calendar) {
			t.Errorf("%s joined with every day: %v", m.name, c)
		}
	}
}

// R3

// TestArgumentsRemain tests that no function changes a calendar, or what is
// behind its lists, and that a joint calendar has memory of its own.
func TestArgumentsRemain(t *testing.T) {
	weekend := []int{0, 5, 6, 1, 2, 3}
	holidays := append(days("2024-12-24", "2024-12-25", "2024-12-26"), 3, 2, 1)
	c := api.Calendar{Weekend: weekend[:3], Holidays: holidays[:3]}
	other := api.Calendar{Weekend: []int{3, 4}, Holidays: days("2024-12-25", "2024-12-31")}
	whole := clone(api.Calendar{Weekend: weekend, Holidays: holidays})
	otherWas := clone(other)
	for _, d := range days("2024-12-23", "2024-12-25", "2024-12-28") {
		calendar.Business(c, d)
		calendar.Next(c, d)
		calendar.Previous(c, d)
		for n := -3; n <= 5; n++ {
			calendar.Adjust(c, d, n)
			calendar.Add(c, d, n)
		}
		calendar.Count(c, api.Period{From: d, To: d + 20})
	}
	for _, joint := range []api.Calendar{join(t, c, other), join(t, other, c), join(t, c, c), join(t, c, api.Calendar{}), join(t, api.Calendar{}, c), join(t, other, other), join(t, other, api.Calendar{})} {
		for i := range joint.Weekend {
			joint.Weekend[i] = -1
		}
		for i := range joint.Holidays {
			joint.Holidays[i] = -1
		}
	}
	if !equal(api.Calendar{Weekend: weekend, Holidays: holidays}, whole) || !equal(other, otherWas) {
		t.Errorf("the arguments are %v, %v and %v", weekend, holidays, other)
	}
}

// R4

func TestNilAndEmptyLists(t *testing.T) {
	empty := api.Calendar{Weekend: []int{}, Holidays: []api.Day{}}
	if calendar.Check(empty) != api.OK || calendar.Check(api.Calendar{}) != api.OK {
		t.Error("a calendar without weekend and without holidays is not valid")
	}
	for _, d := range edges() {
		expectBusiness(t, true, api.OK)(calendar.Business(empty, d))
		expectBusiness(t, true, api.OK)(calendar.Business(api.Calendar{}, d))
	}
	expectCalendar(t, api.Calendar{}, api.OK)(calendar.Join(empty, api.Calendar{}))
	expectCalendar(t, christmas(), api.OK)(calendar.Join(empty, christmas()))
}

// R1

func TestNothingPanics(t *testing.T) {
	calendars := []api.Calendar{{}, christmas(), never(), {Weekend: make([]int, 100000)}, {Holidays: make([]api.Day, 100000)}}
	for c := range invalidCalendars() {
		calendars = append(calendars, c)
	}
	some := append(invalidDays(), api.MinDay, api.MinDay+1, -1, 0, 1, api.MaxDay-1, api.MaxDay)
	numbers := append(hugeNumbers(), -1, 0, 1, 2, 3, 4, 5)
	for _, c := range calendars {
		calendar.Check(c)
		for _, d := range some {
			calendar.Business(c, d)
			calendar.Next(c, d)
			calendar.Previous(c, d)
			for _, n := range numbers {
				calendar.Adjust(c, d, n)
				calendar.Add(c, d, n)
			}
			for _, to := range some {
				calendar.Count(c, api.Period{From: d, To: to})
			}
		}
		for _, other := range calendars {
			calendar.Join(c, other)
		}
	}
}
