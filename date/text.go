package date

import (
	"strconv"
	"strings"

	"tranche/api"
)

// write returns the text of a date, whose year must have four digits.
func write(year, month, day int) string {
	var text strings.Builder
	text.WriteString(strconv.Itoa(year))
	for _, n := range [2]int{month, day} {
		text.WriteByte('-')
		text.WriteByte('0' + byte(n/10))
		text.WriteByte('0' + byte(n%10))
	}
	return text.String()
}

// read returns the year, the month and the day of the month of a text, which
// need not be those of a date.
func read(s string) (int, int, int, api.Errno) {
	if len(s) != 10 || s[4] != '-' || s[7] != '-' {
		return 0, 0, 0, api.ErrSyntax
	}
	allDigits := true
	number := func(at, count int) int {
		n := 0
		for _, c := range []byte(s[at : at+count]) {
			allDigits = allDigits && c >= '0' && c <= '9'
			n = 10*n + int(c) - '0'
		}
		return n
	}
	year, month, day := number(0, 4), number(5, 2), number(8, 2)
	if !allDigits {
		return 0, 0, 0, api.ErrSyntax
	}
	return year, month, day, api.OK
}
