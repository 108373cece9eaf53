package calendar

import "tranche/api"

// weekdays is the number of days of a week.
const weekdays = 7

// isValid returns whether a day is one from MinDay to MaxDay.
func isValid(d api.Day) bool {
	return d >= api.MinDay && d <= api.MaxDay
}

// checkWeekend returns why a list is not one of ascending weekdays.
func checkWeekend(weekend []int) api.Errno {
	for i, weekday := range weekend {
		if weekday < 0 || weekday >= weekdays {
			return api.ErrRange
		}
		if i > 0 && weekday <= weekend[i-1] {
			return api.ErrOrder
		}
	}
	return api.OK
}

// checkHolidays returns why a list is too long, or not one of ascending days.
func checkHolidays(holidays []api.Day) api.Errno {
	if len(holidays) > api.MaxHolidays {
		return api.ErrLimit
	}
	for i, d := range holidays {
		if !isValid(d) {
			return api.ErrDay
		}
		if i > 0 && d <= holidays[i-1] {
			return api.ErrOrder
		}
	}
	return api.OK
}

// checkArguments returns why a calendar or some days cannot be used.
func checkArguments(c api.Calendar, all ...api.Day) api.Errno {
	if Check(c) != api.OK {
		return api.ErrArgument
	}
	for _, d := range all {
		if !isValid(d) {
			return api.ErrDay
		}
	}
	return api.OK
}
