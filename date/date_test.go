package date_test

import (
	"math"
	"strings"
	"testing"
	"time"

	"tranche/api"
	"tranche/date"
)

// P6.1

func TestOf(t *testing.T) {
	for _, c := range []struct {
		date civil
		want api.Day
	}{
		{civil{1970, 1, 1}, 0}, {civil{1969, 12, 31}, -1}, {civil{1970, 1, 2}, 1}, {civil{1970, 2, 1}, 31}, {civil{1970, 12, 31}, 364}, {civil{1971, 1, 1}, 365}, {civil{1973, 1, 1}, 1096},
		{civil{1900, 1, 1}, api.MinDay}, {civil{1900, 1, 2}, api.MinDay + 1}, {civil{2199, 12, 31}, api.MaxDay}, {civil{2199, 12, 30}, api.MaxDay - 1},
		{civil{1900, 2, 28}, -25509}, {civil{1900, 3, 1}, -25508}, {civil{1904, 2, 29}, -24048}, {civil{2000, 2, 28}, 11015}, {civil{2000, 2, 29}, 11016}, {civil{2000, 3, 1}, 11017},
		{civil{2024, 2, 29}, 19782}, {civil{2024, 3, 1}, 19783}, {civil{2024, 3, 31}, 19813}, {civil{2023, 2, 28}, 19416}, {civil{2023, 3, 1}, 19417}, {civil{2100, 2, 28}, 47540}, {civil{2100, 3, 1}, 47541},
	} {
		expectDay(t, c.want, api.OK)(date.Of(c.date.year, c.date.month, c.date.day))
	}
}

func TestOfDatesThatThereAreNot(t *testing.T) {
	for _, c := range []civil{
		{2024, 0, 1}, {2024, 13, 1}, {2024, -1, 1}, {2024, -11, 1}, {2024, 14, 1}, {2024, 1, 0}, {2024, 1, 32}, {2024, 1, -1}, {2024, 4, 31}, {2024, 6, 31}, {2024, 9, 31}, {2024, 11, 31}, {2024, 12, 32}, {2024, 12, 0},
		{2024, 2, 30}, {2024, 2, 31}, {2000, 2, 30}, {2023, 2, 29}, {1900, 2, 29}, {2100, 2, 29}, {1970, 2, 29}, {2199, 2, 29}, {2024, 0, 0}, {2024, 13, 32}, {0, 0, 0},
		{1899, 12, 31}, {1899, 1, 1}, {1899, 12, 32}, {2200, 1, 1}, {2200, 12, 31}, {2200, 1, 0}, {1900, 1, 0}, {2199, 12, 32}, {1900, 0, 31}, {2199, 13, 1}, {1600, 2, 29}, {2400, 2, 29},
		{0, 1, 1}, {1, 1, 1}, {-1, 1, 1}, {-4, 2, 29}, {-1970, 1, 1}, {-2024, 2, 29}, {9999, 12, 31}, {70, 1, 1}, {24, 3, 31},
	} {
		expectDay(t, 0, api.ErrDay)(date.Of(c.year, c.month, c.day))
	}
	for _, n := range hugeNumbers() {
		expectDay(t, 0, api.ErrDay)(date.Of(n, 1, 1))
		expectDay(t, 0, api.ErrDay)(date.Of(2024, n, 1))
		expectDay(t, 0, api.ErrDay)(date.Of(2024, 1, n))
		expectDay(t, 0, api.ErrDay)(date.Of(n, n, n))
	}
}

// TestOfNearValidDates compares with the definition for all dates of the valid years, and for what is near them.
func TestOfNearValidDates(t *testing.T) {
	for year := 1890; year <= 2210; year++ {
		for month := -2; month <= 15; month++ {
			for day := -2; day <= 34; day++ {
				want, code := api.Day(0), api.ErrDay
				if c := (civil{year, month, day}); exists(c) && year >= 1900 && year <= 2199 {
					want, code = dayOf(c), api.OK
				}
				if got, e := date.Of(year, month, day); got != want || e != code {
					t.Fatalf("Of(%d, %d, %d) = %d, %d, want %d, %d", year, month, day, got, e, want, code)
				}
			}
		}
	}
}

func TestParts(t *testing.T) {
	for _, c := range []struct {
		d    api.Day
		want civil
	}{
		{0, civil{1970, 1, 1}}, {-1, civil{1969, 12, 31}}, {1, civil{1970, 1, 2}}, {api.MinDay, civil{1900, 1, 1}}, {api.MaxDay, civil{2199, 12, 31}}, {19813, civil{2024, 3, 31}},
		{-25509, civil{1900, 2, 28}}, {-25508, civil{1900, 3, 1}}, {11016, civil{2000, 2, 29}}, {11017, civil{2000, 3, 1}}, {19782, civil{2024, 2, 29}}, {47540, civil{2100, 2, 28}}, {47541, civil{2100, 3, 1}}, {10957, civil{2000, 1, 1}}, {11322, civil{2000, 12, 31}}, {11323, civil{2001, 1, 1}},
	} {
		if got := parts(t, c.d); got != c.want {
			t.Errorf("Parts(%d) = %v, want %v", c.d, got, c.want)
		}
	}
}

// TestEveryDay compares the functions of one day with the definitions, for all days.
func TestEveryDay(t *testing.T) {
	for d, c := range validDays() {
		if c != civilOf(d) {
			t.Fatalf("the day %d is %v, or %v", d, c, civilOf(d))
		}
		if got := parts(t, d); got != c {
			t.Fatalf("Parts(%d) = %v, want %v", d, got, c)
		}
		if got, want := weekday(t, d), (int(moment(d).Weekday())+6)%7; got != want {
			t.Fatalf("Weekday(%s) = %d, want %d", textOf(d), got, want)
		}
		if got, e := date.Last(d); got != dayOf(civil{c.year, c.month, daysOfMonth(c.year, c.month)}) || e != api.OK {
			t.Fatalf("Last(%s) = %d, %d", textOf(d), got, e)
		}
		if got := text(t, d); got != textOf(d) {
			t.Fatalf("Print(%d) = %q, want %q", d, got, textOf(d))
		}
		if got, e := date.Parse(textOf(d)); got != d || e != api.OK {
			t.Fatalf("Parse(%q) = %d, %d, want %d", textOf(d), got, e, d)
		}
	}
}

func TestWeekday(t *testing.T) {
	for _, c := range []struct {
		text string
		want int
	}{
		{"1970-01-01", 3}, {"1969-12-31", 2}, {"1970-01-04", 6}, {"1970-01-05", 0}, {"1969-12-28", 6}, {"1969-12-29", 0}, {"1900-01-01", 0}, {"2199-12-31", 1}, {"2024-03-31", 6}, {"2024-12-25", 2}, {"2000-02-29", 1}, {"1900-02-28", 2}, {"1900-03-01", 3}, {"2024-11-30", 5},
	} {
		if got := weekday(t, on(c.text)); got != c.want {
			t.Errorf("Weekday(%s) = %d, want %d", c.text, got, c.want)
		}
	}
}

func TestLeap(t *testing.T) {
	for year, want := range map[int]bool{
		2024: true, 2023: false, 2022: false, 2000: true, 1900: false, 2100: false, 2200: false, 1904: true, 1600: true, 1700: false, 2400: true, 4: true, 100: false, 400: true, 0: true, 1: false,
		-1: false, -4: true, -100: false, -400: true, -404: true, -2000: true, -1900: false, 10000: true, 10100: false,
		math.MaxInt: false, math.MaxInt - 3: true, math.MaxInt - 7: false, math.MaxInt - 207: true, math.MinInt: true, math.MinInt + 1: false, math.MinInt + 8: false, math.MinInt + 208: true,
	} {
		if got := date.Leap(year); got != want {
			t.Errorf("Leap(%d) = %t, want %t", year, got, want)
		}
	}
	for year := -2500; year <= 4500; year++ {
		want := time.Date(year, time.December, 31, 0, 0, 0, 0, time.UTC).YearDay() == 366
		if got := date.Leap(year); got != want || got != leap(year) {
			t.Errorf("Leap(%d) = %t, want %t", year, got, want)
		}
	}
}

func TestLast(t *testing.T) {
	for _, c := range []struct{ text, want string }{
		{"2024-03-31", "2024-03-31"}, {"2024-03-01", "2024-03-31"}, {"2024-02-01", "2024-02-29"}, {"2024-02-29", "2024-02-29"}, {"2023-02-01", "2023-02-28"}, {"2023-02-28", "2023-02-28"}, {"1900-02-01", "1900-02-28"}, {"2000-02-28", "2000-02-29"}, {"2100-02-28", "2100-02-28"},
		{"1900-01-01", "1900-01-31"}, {"2199-12-01", "2199-12-31"}, {"2199-12-31", "2199-12-31"}, {"1969-12-31", "1969-12-31"}, {"1970-01-01", "1970-01-31"}, {"2024-04-30", "2024-04-30"}, {"2024-11-15", "2024-11-30"},
	} {
		expectDay(t, on(c.want), api.OK)(date.Last(on(c.text)))
	}
}

func TestAddMonths(t *testing.T) {
	for _, c := range []struct {
		text string
		n    int
		want string
	}{
		{"2024-03-31", 1, "2024-04-30"}, {"2024-03-31", -1, "2024-02-29"}, {"2024-03-31", 11, "2025-02-28"}, {"2024-03-31", 0, "2024-03-31"}, {"2024-03-31", 12, "2025-03-31"}, {"2024-03-31", -13, "2023-02-28"}, {"2024-03-31", -12, "2023-03-31"},
		{"2024-01-31", 1, "2024-02-29"}, {"2024-01-30", 1, "2024-02-29"}, {"2024-01-29", 1, "2024-02-29"}, {"2024-01-28", 1, "2024-02-28"}, {"2023-01-29", 1, "2023-02-28"}, {"2024-02-29", 12, "2025-02-28"}, {"2024-02-29", 48, "2028-02-29"}, {"2024-02-29", -288, "2000-02-29"},
		{"2000-02-29", 1200, "2100-02-28"}, {"2000-02-29", -1200, "1900-02-28"}, {"2096-02-29", 48, "2100-02-28"}, {"1904-02-29", -48, "1900-02-28"}, {"2024-02-29", 1, "2024-03-29"}, {"2024-04-30", 1, "2024-05-30"}, {"2024-04-30", -1, "2024-03-30"},
		{"2023-12-31", 1, "2024-01-31"}, {"2024-01-31", -1, "2023-12-31"}, {"2024-12-15", 1, "2025-01-15"}, {"2024-11-30", 1, "2024-12-30"}, {"2024-01-15", -1, "2023-12-15"}, {"2024-01-15", -12, "2023-01-15"}, {"2024-12-15", 12, "2025-12-15"}, {"1970-01-01", -1, "1969-12-01"}, {"1969-12-31", 2, "1970-02-28"},
		{"1900-01-01", 3599, "2199-12-01"}, {"2199-12-31", -3599, "1900-01-31"}, {"2199-12-01", -3599, "1900-01-01"}, {"1900-01-31", 3599, "2199-12-31"}, {"2199-11-30", 1, "2199-12-30"}, {"1900-02-28", -1, "1900-01-28"}, {"2024-03-31", 2109, "2199-12-31"}, {"2024-03-31", -1490, "1900-01-31"},
	} {
		expectDay(t, on(c.want), api.OK)(date.AddMonths(on(c.text), c.n))
	}
}

func TestAddMonthsErrors(t *testing.T) {
	// A day that is not valid comes first, then the number, and then the result.
	for _, n := range append([]int{0, 1, -1, 4800, -4800, 4801, -4801}, hugeNumbers()...) {
		for _, d := range invalidDays() {
			expectDay(t, 0, api.ErrDay)(date.AddMonths(d, n))
		}
	}
	for _, n := range append([]int{4801, -4801, 4802, -4802, 9600, -9600}, hugeNumbers()...) {
		if n >= -api.MaxShift && n <= api.MaxShift {
			continue
		}
		for _, d := range []api.Day{0, api.MinDay, api.MaxDay, 19813} {
			expectDay(t, 0, api.ErrRange)(date.AddMonths(d, n))
		}
	}
	for _, c := range []struct {
		text string
		n    int
	}{
		{"1900-01-01", -1}, {"1900-01-31", -1}, {"2199-12-31", 1}, {"2199-12-01", 1}, {"1900-01-01", 3600}, {"2199-12-31", -3600}, {"1900-12-31", -12}, {"2199-01-01", 12}, {"2024-03-31", 2110}, {"2024-03-31", -1491},
		{"1900-01-01", 4800}, {"1900-01-01", -4800}, {"2199-12-31", 4800}, {"2199-12-31", -4800}, {"1970-01-01", 4800}, {"1970-01-01", -4800}, {"2000-02-29", 4800}, {"2000-02-29", -4800}, {"2024-03-31", 4799}, {"2024-03-31", -4799},
	} {
		expectDay(t, 0, api.ErrDay)(date.AddMonths(on(c.text), c.n))
	}
}

// TestAddMonthsFromEdges compares with the definition for shifts by few months, by whole years, and by as many as there can be.
func TestAddMonthsFromEdges(t *testing.T) {
	shifts := []int{-4802, -4801, -4800, -4799, -3601, -3600, -3599, -3598, -1201, -1200, -1199, -120, -48, 48, 120, 1199, 1200, 1201, 3598, 3599, 3600, 3601, 4799, 4800, 4801, 4802}
	for n := -26; n <= 26; n++ {
		shifts = append(shifts, n)
	}
	for _, d := range edges() {
		for _, n := range shifts {
			want, code := added(d, n)
			if got, e := date.AddMonths(d, n); got != want || e != code {
				t.Fatalf("AddMonths(%s, %d) = %d, %d, want %d, %d", textOf(d), n, got, e, want, code)
			}
		}
	}
}

func TestAddMonthsByEveryNumber(t *testing.T) {
	for _, d := range []api.Day{api.MinDay, api.MaxDay, on("1900-01-31"), on("1969-12-31"), on("2000-02-29"), on("2024-03-31"), on("2199-11-30")} {
		for n := -api.MaxShift - 2; n <= api.MaxShift+2; n++ {
			want, code := added(d, n)
			if got, e := date.AddMonths(d, n); got != want || e != code {
				t.Fatalf("AddMonths(%s, %d) = %d, %d, want %d, %d", textOf(d), n, got, e, want, code)
			}
		}
	}
}

func TestMonths(t *testing.T) {
	for _, c := range []struct {
		a, b string
		want int
	}{
		{"2024-01-31", "2024-02-29", 1}, {"2024-01-30", "2024-02-28", 0}, {"2024-01-31", "2024-02-28", 0}, {"2024-01-30", "2024-02-29", 1}, {"2024-01-29", "2024-02-29", 1}, {"2024-01-28", "2024-02-28", 1}, {"2023-01-31", "2023-02-28", 1}, {"2023-01-31", "2023-02-27", 0},
		{"2024-02-29", "2025-02-28", 12}, {"2024-02-29", "2025-02-27", 11}, {"2024-02-29", "2028-02-28", 47}, {"2024-02-29", "2028-02-29", 48}, {"2000-02-29", "2100-02-28", 1200}, {"1900-02-28", "2000-02-29", 1200}, {"1900-02-28", "2000-02-27", 1199},
		{"2024-03-31", "2024-03-31", 0}, {"2024-03-01", "2024-03-31", 0}, {"2024-03-31", "2024-04-01", 0}, {"2024-03-31", "2024-04-30", 1}, {"2024-03-15", "2024-04-14", 0}, {"2024-03-15", "2024-04-15", 1}, {"2023-12-31", "2024-01-31", 1}, {"2023-12-31", "2024-01-30", 0}, {"2023-03-15", "2024-03-14", 11}, {"2023-03-15", "2024-03-15", 12},
		{"1900-01-01", "2199-12-31", 3599}, {"1900-01-31", "2199-12-31", 3599}, {"1900-01-31", "2199-12-30", 3598}, {"1900-01-01", "1900-01-01", 0}, {"2199-12-31", "2199-12-31", 0}, {"1969-12-31", "1970-01-01", 0}, {"1969-12-01", "1970-01-01", 1},
	} {
		for _, direction := range []struct {
			a, b api.Day
			want int
		}{{on(c.a), on(c.b), c.want}, {on(c.b), on(c.a), -c.want}} {
			if got := months(t, direction.a, direction.b); got != direction.want {
				t.Errorf("Months(%s, %s) = %d, want %d", textOf(direction.a), textOf(direction.b), got, direction.want)
			}
		}
	}
	for _, d := range edges() {
		if n := months(t, d, d); n != 0 {
			t.Errorf("Months(%s, %s) = %d", textOf(d), textOf(d), n)
		}
	}
}

func TestMonthsBetweenAnyDays(t *testing.T) {
	expect := func(a, b api.Day) {
		t.Helper()
		if got, want := months(t, a, b), between(a, b); got != want {
			t.Fatalf("Months(%s, %s) = %d, want %d", textOf(a), textOf(b), got, want)
		}
	}
	for _, from := range []api.Day{on("2023-12-20"), on("1899-12-31") + 1, on("2099-12-20"), on("1999-12-20")} {
		for a := from; a < from+110; a++ {
			for b := from; b < from+480; b++ {
				expect(a, b)
				expect(b, a)
			}
		}
	}
	s := newSource(1)
	for range 1500 {
		a := s.day()
		expect(a, s.day())
		expect(a, s.near(a))
	}
}

func TestDaysThatAreNotValid(t *testing.T) {
	for _, d := range invalidDays() {
		if year, month, day, e := date.Parts(d); year != 0 || month != 0 || day != 0 || e != api.ErrDay {
			t.Errorf("Parts(%d) = %d, %d, %d, %d", d, year, month, day, e)
		}
		if n, e := date.Weekday(d); n != 0 || e != api.ErrDay {
			t.Errorf("Weekday(%d) = %d, %d", d, n, e)
		}
		if s, e := date.Print(d); s != "" || e != api.ErrDay {
			t.Errorf("Print(%d) = %q, %d", d, s, e)
		}
		expectDay(t, 0, api.ErrDay)(date.Last(d))
		for _, other := range append(invalidDays(), 0, api.MinDay, api.MaxDay) {
			for _, pair := range [][2]api.Day{{d, other}, {other, d}} {
				if n, e := date.Months(pair[0], pair[1]); n != 0 || e != api.ErrDay {
					t.Errorf("Months(%d, %d) = %d, %d", pair[0], pair[1], n, e)
				}
			}
		}
	}
}

func TestParse(t *testing.T) {
	for _, c := range []struct {
		text string
		want api.Day
	}{
		{"1970-01-01", 0}, {"1969-12-31", -1}, {"1970-01-02", 1}, {"2024-03-31", 19813}, {"1900-01-01", api.MinDay}, {"2199-12-31", api.MaxDay}, {"2000-02-29", 11016}, {"1900-02-28", -25509}, {"2100-03-01", 47541}, {"2009-08-07", 14463}, {"1996-10-10", 9779},
	} {
		expectDay(t, c.want, api.OK)(date.Parse(c.text))
		if got := text(t, c.want); got != c.text {
			t.Errorf("Print(%d) = %q, want %q", c.want, got, c.text)
		}
	}
}

func TestParseOfTextsThatAreNoDays(t *testing.T) {
	for _, s := range []string{
		"", "-", "--", "2024", "2024-03", "2024-03-", "2024-03-3", "2024-03-311", "02024-03-31", "2024-3-31", "2024-03-31 ", " 2024-03-31", "2024-03-31\n", "\n2024-03-31", "2024-03-31T", "2024-03-31\x00", "224-03-31", "22024-03-31", "2024-003-31",
		"2024-3-031", "2024-3--31", "2024-03--1", "2024-03-+1", "2024-03- 1", "2024-03-1 ", "-024-03-31", "+024-03-31", " 024-03-31", "2024-+3-31", "2024- 3-31", "2024--3-31", "20240-3-31", "202-403-31", "2024-031-3", "20240331", "2024033100", "2024/03/31", "2024.03.31", "2024:03:31", "2024 03 31", "2024_03_31",
		"2024-03/31", "2024/03-31", "31-03-2024", "03-31-2024", "20x4-03-31", "2024-0x-31", "2024-03-x1", "2024-03-3x", "2o24-03-31", "2024-03-3l", "0x24-03-31", "2e24-03-31", "----------", "0000000000", "          ", "2024–03–31", "2024−03-1", "２０24-03-3", "٢٠-03-31", "2024-03-3\xff", "\xff\xff\xff\xff-\xff\xff-\xff\xff",
		"2024-Mar-1", "2024-1-1", "24-03-31", "1-1-1", "-2024-03-31", "+2024-03-31", "10000-01-01", "2024-03-31-", "2024-03-31-01", strings.Repeat("2024-03-31", 7000), strings.Repeat("0", 70000), strings.Repeat("-", 70000),
		// The form comes before the date.
		"2024-13-0x", "x024-02-30", "2024-00/00", "9999-99-9", "0000-00-000", "2024-02-30x",
	} {
		expectDay(t, 0, api.ErrSyntax)(date.Parse(s))
	}
	for _, s := range []string{
		"2024-02-30", "2023-02-29", "1900-02-29", "2100-02-29", "2000-02-30", "2024-00-01", "2024-13-01", "2024-01-00", "2024-01-32", "2024-04-31", "2024-06-31", "2024-09-31", "2024-11-31", "2024-99-99", "2024-00-00", "0000-00-00", "9999-99-99",
		"1899-12-31", "2200-01-01", "0000-01-01", "0001-01-01", "0024-03-31", "9999-12-31", "1600-02-29", "2400-02-29", "1900-01-00", "2199-12-32", "2200-01-00", "1899-12-32",
	} {
		expectDay(t, 0, api.ErrDay)(date.Parse(s))
	}
}

// TestParseWithAnotherByte compares with the definition for all texts that differ from the text of a day in one byte, or lack it, or have one more.
func TestParseWithAnotherByte(t *testing.T) {
	expect := func(s string) {
		t.Helper()
		want, code := parsed(s)
		if got, e := date.Parse(s); got != want || e != code {
			t.Fatalf("Parse(%q) = %d, %d, want %d, %d", s, got, e, want, code)
		}
	}
	for _, s := range []string{"2024-03-31", "1900-01-01", "2199-12-31", "2000-02-29", "2023-02-28", "1970-10-10", "2024-02-30", "0000-00-00"} {
		for i := range len(s) + 1 {
			for c := range 256 {
				other := string([]byte{byte(c)})
				expect(s[:i] + other + s[i:])
				if i < len(s) {
					expect(s[:i] + other + s[i+1:])
				}
			}
			expect(s[:i])
			expect(s[i:])
			if i < len(s) {
				expect(s[:i] + s[i+1:])
			}
		}
	}
}
