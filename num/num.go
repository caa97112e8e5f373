// Package num is layer 1: see shared/doc/01-num.md.
package num

import (
	"math/bits"

	"bordereau/api"
)

// rounding tells whether a quotient with a rest goes up to the next whole number.
type rounding struct {
	up func(quotient, rest, divisor uint64) bool
}

// Down is a times b by c, rounded down.
func Down(a, b, c int) (int, api.Errno) {
	return divide(a, b, c, rounding{up: never})
}

// Even is a times b by c, rounded to the nearest, of two to the even one.
func Even(a, b, c int) (int, api.Errno) {
	return divide(a, b, c, rounding{up: nearer})
}

// Bp is so many parts in 10000 of m.
func Bp(m, bp int) (int, api.Errno) {
	return Even(m, bp, api.MaxBp)
}

// Split is m, dealt out by parts.
func Split(m int, parts []int) ([]int, api.Errno) {
	if m < 0 || len(parts) > api.MaxRows || anyBelowZero(parts) {
		return nil, api.ErrArg
	}
	all, fits := sum(parts)
	if !fits || m > api.MaxSum {
		return nil, api.ErrOver
	}
	if all == 0 {
		return nil, api.ErrZero
	}
	next := dealer(m, all)
	shares := make([]int, len(parts))
	for i, part := range parts {
		shares[i] = next(part)
	}
	return shares, api.OK
}

func divide(a, b, c int, r rounding) (int, api.Errno) {
	if a < 0 || b < 0 || c < 0 {
		return 0, api.ErrArg
	}
	if c == 0 {
		return 0, api.ErrZero
	}
	divisor := uint64(c)
	high, low := bits.Mul64(uint64(a), uint64(b))
	// Div64 would panic: such a quotient has more than 64 bits.
	if high >= divisor {
		return 0, api.ErrOver
	}
	quotient, rest := bits.Div64(high, low, divisor)
	// Asked ahead of rounding too, since the greatest uint64 would wrap round to 0.
	if quotient > api.MaxSum {
		return 0, api.ErrOver
	}
	if r.up(quotient, rest, divisor) {
		quotient++
	}
	if quotient > api.MaxSum {
		return 0, api.ErrOver
	}
	return int(quotient), api.OK
}

func never(quotient, rest, divisor uint64) bool {
	return false
}

func nearer(quotient, rest, divisor uint64) bool {
	missing := divisor - rest
	return rest > missing || rest == missing && quotient%2 == 1
}

func anyBelowZero(parts []int) bool {
	for _, part := range parts {
		if part < 0 {
			return true
		}
	}
	return false
}

// sum adds parts that are not below 0, and tells whether they are MaxSum at most.
func sum(parts []int) (int, bool) {
	all := 0
	for _, part := range parts {
		if part > api.MaxSum-all {
			return 0, false
		}
		all += part
	}
	return all, true
}

// dealer gives each part its share, one behind the other. A share is what the sums of two neighbours differ by, so that no cent is lost.
func dealer(m, all int) func(part int) int {
	upto, dealt := 0, 0
	return func(part int) int {
		upto += part
		// No code can come: upto is at most all, so the quotient is at most m.
		due, _ := Down(m, upto, all)
		share := due - dealt
		dealt = due
		return share
	}
}
