// Package cents reckons with amounts: whole cents, from 0 to Top.
package cents

import "math/bits"

// Top is the greatest amount. It lies so far below the end of an int that
// two right amounts never wrap round when they are added.
const Top = 1 << 60

// Ways of rounding. Half takes the even one of two that are as near, so that
// many roundings lean neither up nor down.
const (
	Down = iota
	Up
	Half
)

// Right tells whether each of l is an amount.
func Right(l ...int) bool {
	for _, n := range l {
		if n < 0 || n > Top {
			return false
		}
	}
	return true
}

// Sum adds l up, and tells whether all of them are from 0 on and the sum is
// an amount.
func Sum(l ...int) (int, bool) {
	sum := 0
	for _, n := range l {
		// The room is asked ahead of adding: n may be as great as an int gets.
		// Nothing behind n can mend a sum that is too great, because what is
		// below 0 is refused as well; so the order of l plays no part.
		if n < 0 || n > Top-sum {
			return 0, false
		}
		sum += n
	}
	return sum, true
}

// MulDiv is n times by, by per, brought to a whole number in the way that how
// names, and whether that may be asked and is an amount.
func MulDiv(n, by, per, how int) (int, bool) {
	if !Right(n, by, per) || per == 0 || how < Down || how > Half {
		return 0, false
	}
	high, low := bits.Mul64(uint64(n), uint64(by))
	// Div64 panics when the quotient has more than 64 bits; such a one is far
	// above Top anyway.
	if high >= uint64(per) {
		return 0, false
	}
	quotient, rest := bits.Div64(high, low, uint64(per))
	// Asked ahead of rounding as well, so that one more can't wrap round.
	if quotient > Top {
		return 0, false
	}
	if goesUp(quotient, rest, uint64(per), how) {
		quotient++
	}
	if quotient > Top {
		return 0, false
	}
	return int(quotient), true
}

// goesUp tells whether a quotient with this rest is rounded to the upper whole
// number. The rest is below per, and per at most Top: twice the rest fits.
func goesUp(quotient, rest, per uint64, how int) bool {
	switch how {
	case Up:
		return rest > 0
	case Half:
		return 2*rest > per || 2*rest == per && quotient%2 == 1
	}
	return false
}

// Least is the least of l, whether they are amounts or not; Top of none, since
// no amount is bound by nothing.
func Least(l ...int) int {
	if len(l) == 0 {
		return Top
	}
	least := l[0]
	for _, n := range l[1:] {
		least = min(least, n)
	}
	return least
}
