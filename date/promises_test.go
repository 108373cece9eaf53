package date_test

import (
	"testing"

	"tranche/api"
	"tranche/date"
)

// P6.2

func TestThereAndBack(t *testing.T) {
	for d := api.Day(api.MinDay); d <= api.MaxDay; d++ {
		c := parts(t, d)
		if back, e := date.Of(c.year, c.month, c.day); back != d || e != api.OK {
			t.Fatalf("the day %d has the date %v, with the day %d, %d", d, c, back, e)
		}
		if d == api.MaxDay {
			break
		}
		if next := parts(t, d+1); next != c.next() {
			t.Fatalf("the day behind %v is %v", c, next)
		}
	}
	if first, last := parts(t, api.MinDay), parts(t, api.MaxDay); first != (civil{1900, 1, 1}) || last != (civil{2199, 12, 31}) {
		t.Errorf("the days from %v to %v", first, last)
	}
}

func TestBackAndThere(t *testing.T) {
	for _, c := range validDays() {
		d, e := date.Of(c.year, c.month, c.day)
		if e != api.OK || parts(t, d) != c {
			t.Fatalf("the date %v has the day %d, %d, with the date %v", c, d, e, parts(t, d))
		}
	}
}

// P6.3

func TestWeeks(t *testing.T) {
	if n := weekday(t, 0); n != 3 {
		t.Fatalf("January 1, 1970 is the day %d of the week", n)
	}
	for d := api.Day(api.MinDay); d < api.MaxDay; d++ {
		n := weekday(t, d)
		if n < 0 || n > 6 {
			t.Fatalf("%s is the day %d of the week", textOf(d), n)
		}
		if next := weekday(t, d+1); next != n+1 && (n != 6 || next != 0) {
			t.Fatalf("%s is the day %d of the week, and the next one %d", textOf(d), n, next)
		}
		if d+7 <= api.MaxDay && weekday(t, d+7) != n {
			t.Fatalf("%s is the day %d of the week, and 7 days later it is %d", textOf(d), n, weekday(t, d+7))
		}
	}
}

// P6.4

// first returns the first day of a year, also if it is the one behind the last valid day.
func first(t *testing.T, year int) api.Day {
	t.Helper()
	if year == 2200 {
		return api.MaxDay + 1
	}
	d, e := date.Of(year, 1, 1)
	if e != api.OK {
		t.Fatalf("January 1, %d: %d", year, e)
	}
	return d
}

func TestDaysOfYears(t *testing.T) {
	for year := 1900; year <= 2199; year++ {
		want := api.Day(365)
		if date.Leap(year) {
			want = 366
		}
		if got := first(t, year+1) - first(t, year); got != want {
			t.Errorf("%d has %d days", year, got)
		}
		last := first(t, year+1) - 1
		if got := parts(t, last); got != (civil{year, 12, 31}) {
			t.Errorf("the last day of %d is %v", year, got)
		}
		_, e := date.Of(year, 2, 29)
		if (e == api.OK) != date.Leap(year) {
			t.Errorf("February 29, %d: %d", year, e)
		}
	}
}

func TestLeapYearsRepeat(t *testing.T) {
	for from := -800; from <= 2800; from++ {
		if date.Leap(from) != date.Leap(from+400) {
			t.Errorf("Leap(%d) = %t, but not Leap(%d)", from, date.Leap(from), from+400)
		}
	}
	leaps := 0
	for year := 1900; year < 2300; year++ {
		if date.Leap(year) {
			leaps++
		}
	}
	if leaps != 97 {
		t.Errorf("%d leap years in 400 years", leaps)
	}
}

// P6.5

// TestMonthsOfShiftedDays tests that shifted days lie in the right month, on the same day of it or on its last one.
func TestMonthsOfShiftedDays(t *testing.T) {
	s := newSource(2)
	for _, d := range edges() {
		from := parts(t, d)
		for _, n := range []int{0, 1, -1, 2, -2, 6, -6, 11, -11, 12, -12, 13, -13, 1200, -1200, s.Intn(3600), -s.Intn(3600), s.Intn(api.MaxShift), -s.Intn(api.MaxShift)} {
			month := 12*from.year + from.month - 1 + n
			got, e := date.AddMonths(d, n)
			if month < 12*1900 || month >= 12*2200 {
				expectDay(t, 0, api.ErrDay)(got, e)
				continue
			}
			want := civil{month / 12, month%12 + 1, from.day}
			want.day = min(want.day, daysOfMonth(want.year, want.month))
			if e != api.OK || parts(t, got) != want {
				t.Fatalf("AddMonths(%s, %d) = %d, %d, want %v", textOf(d), n, got, e, want)
			}
		}
	}
}

func TestShiftsAfterOneAnother(t *testing.T) {
	s := newSource(3)
	compared := 0
	for range 40000 {
		d, n, m := s.day(), s.Intn(2*api.MaxShift)-api.MaxShift, s.Intn(200)-100
		between, e := date.AddMonths(d, n)
		if parts(t, d).day > 28 || e != api.OK || n+m < -api.MaxShift || n+m > api.MaxShift {
			continue
		}
		// If the result is not valid, both ways say so.
		compared++
		want, code := date.AddMonths(d, n+m)
		if got, e := date.AddMonths(between, m); got != want || e != code {
			t.Fatalf("%s shifted by %d and %d: %d, %d, want %d, %d", textOf(d), n, m, got, e, want, code)
		}
		if back := add(t, between, -n); back != d {
			t.Fatalf("%s shifted by %d and back: %s", textOf(d), n, textOf(back))
		}
	}
	if compared < 5000 {
		t.Fatalf("only %d shifts were compared", compared)
	}
	// The 28th is the last day for which this must be so.
	if d := on("2023-01-29"); add(t, add(t, d, 1), 1) != on("2023-03-28") || add(t, d, 2) != on("2023-03-29") {
		t.Error("the 29th shifted by 1 and 1, and by 2")
	}
	if d := on("2023-01-28"); add(t, add(t, d, 1), 1) != on("2023-03-28") || add(t, d, 2) != on("2023-03-28") {
		t.Error("the 28th shifted by 1 and 1, and by 2")
	}
}

func TestShiftingKeepsTheOrder(t *testing.T) {
	for _, n := range []int{0, 1, -1, 2, -2, 11, 12, -12, 48, 1200, -1200, 1199, 3000, -3000} {
		before := api.Day(api.MinDay)
		for d := api.Day(api.MinDay); d <= api.MaxDay; d++ {
			got, e := date.AddMonths(d, n)
			if e != api.OK {
				continue
			}
			if got < before {
				t.Fatalf("%s and the day before, shifted by %d: %s and %s", textOf(d), n, textOf(got), textOf(before))
			}
			before = got
		}
	}
	s := newSource(4)
	for range 20000 {
		a, b, n := s.day(), s.day(), s.Intn(4000)-2000
		shiftedA, e := date.AddMonths(a, n)
		shiftedB, code := date.AddMonths(b, n)
		if e == api.OK && code == api.OK && (a <= b && shiftedA > shiftedB || a >= b && shiftedA < shiftedB) {
			t.Fatalf("%s and %s, shifted by %d: %s and %s", textOf(a), textOf(b), n, textOf(shiftedA), textOf(shiftedB))
		}
	}
}

// P6.6

// expectWholeMonths tests the number of whole months from a to b, which is at least a.
func expectWholeMonths(t *testing.T, a, b api.Day) {
	t.Helper()
	n := months(t, a, b)
	if got := add(t, a, n); n < 0 || got > b {
		t.Fatalf("%s shifted by the %d months to %s: %s", textOf(a), n, textOf(b), textOf(got))
	}
	// The last months lead behind the last valid day, which is greater than b as well.
	if got, e := date.AddMonths(a, n+1); e == api.OK && got <= b || e != api.OK && e != api.ErrDay {
		t.Fatalf("%s shifted by one more than the %d months to %s: %d, %d", textOf(a), n, textOf(b), got, e)
	}
	if opposite := months(t, b, a); opposite != -n {
		t.Fatalf("%d months from %s to %s, and %d back", n, textOf(a), textOf(b), opposite)
	}
}

func TestWholeMonths(t *testing.T) {
	s := newSource(5)
	for range 50000 {
		a := s.day()
		for _, b := range []api.Day{s.day(), s.near(a), a, api.MaxDay} {
			expectWholeMonths(t, min(a, b), max(a, b))
		}
	}
	some := edges()
	for i, a := range some {
		for _, b := range some[i:] {
			expectWholeMonths(t, a, b)
		}
	}
}

// TestWholeMonthsOfShifts tests that a shift has its number of whole months, and the day before it one less.
func TestWholeMonthsOfShifts(t *testing.T) {
	for _, a := range edges() {
		for _, n := range []int{0, 1, 2, 3, 11, 12, 13, 24, 48, 100, 1200} {
			b, e := date.AddMonths(a, n)
			if e != api.OK {
				continue
			}
			if got := months(t, a, b); got != n {
				t.Fatalf("%d whole months from %s to %s, want %d", got, textOf(a), textOf(b), n)
			}
			if n == 0 {
				continue
			}
			if got := months(t, a, b-1); got != n-1 {
				t.Fatalf("%d whole months from %s to %s, want %d", got, textOf(a), textOf(b-1), n-1)
			}
		}
	}
}

// P6.7

func TestTextsOfDays(t *testing.T) {
	before := ""
	for d := api.Day(api.MinDay); d <= api.MaxDay; d++ {
		s := text(t, d)
		if !dayText.MatchString(s) {
			t.Fatalf("the text of %d is %q", d, s)
		}
		if back, e := date.Parse(s); back != d || e != api.OK {
			t.Fatalf("the text of %d is %q, with the day %d, %d", d, s, back, e)
		}
		if s <= before {
			t.Fatalf("the text %q comes behind %q", s, before)
		}
		before = s
	}
}

func TestOrderOfTexts(t *testing.T) {
	s := newSource(6)
	for range 20000 {
		a := s.day()
		for _, b := range []api.Day{s.day(), s.near(a), a} {
			if x, y := text(t, a), text(t, b); (x < y) != (a < b) || (x == y) != (a == b) {
				t.Fatalf("the texts of %d and %d are %q and %q", a, b, x, y)
			}
		}
	}
}

// TestTextsOfWhatWasParsed tests that no day has two texts, and that each day has one.
func TestTextsOfWhatWasParsed(t *testing.T) {
	pad := func(n, digits int) string {
		s := ""
		for range digits {
			s = string(rune('0'+n%10)) + s
			n /= 10
		}
		return s
	}
	found := 0
	for year := range 10000 {
		for month := range 15 {
			// Most years have no valid days, so that a few of their dates are enough.
			step := 1
			if year < 1890 || year > 2210 {
				step = 13
			}
			for day := 0; day <= 33; day += step {
				s := pad(year, 4) + "-" + pad(month, 2) + "-" + pad(day, 2)
				d, e := date.Parse(s)
				if e == api.ErrDay {
					continue
				}
				found++
				if e != api.OK || text(t, d) != s {
					t.Fatalf("%q is parsed as %d, %d", s, d, e)
				}
			}
		}
	}
	if found != api.MaxDay-api.MinDay+1 {
		t.Errorf("%d texts can be parsed", found)
	}
}

// R1

func TestNothingPanics(t *testing.T) {
	numbers := append(hugeNumbers(), -4801, -4800, -1, 0, 1, 2, 12, 13, 28, 29, 31, 32, 1899, 1900, 2199, 2200, 4800, 4801, api.MinDay-1, api.MinDay, api.MaxDay, api.MaxDay+1)
	for _, a := range numbers {
		date.Leap(a)
		date.Parts(api.Day(a))
		date.Weekday(api.Day(a))
		date.Last(api.Day(a))
		date.Print(api.Day(a))
		for _, b := range numbers {
			date.AddMonths(api.Day(a), b)
			date.Months(api.Day(a), api.Day(b))
			for _, c := range numbers {
				date.Of(a, b, c)
			}
		}
	}
}
