package decimal

import (
	"tranche/api"
	"tranche/integer"
)

// goesUp reports whether a mode rounds a number between floor and floor + 1 to
// the latter one; half is how what is over floor compares with 1/2.
func goesUp(mode int, floor api.Int, half int) (bool, api.Errno) {
	negative := integer.Compare(floor, "") < 0
	switch mode {
	case api.HalfEven:
		return half > 0 || half == 0 && isOdd(floor), api.OK
	case api.HalfUp:
		return half > 0 || half == 0 && !negative, api.OK
	case api.Down:
		return negative, api.OK
	case api.Up:
		return !negative, api.OK
	case api.Floor:
		return false, api.OK
	case api.Ceiling:
		return true, api.OK
	}
	return false, api.ErrKind
}

// isOdd returns whether a is odd.
func isOdd(a api.Int) bool {
	_, rest, _ := integer.Div(a, "2")
	return rest != ""
}
