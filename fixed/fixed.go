// Package fixed: numbers that are rounded (chapter 1).
package fixed

import (
	"math"
	"math/bits"
)

// Floor: the greatest number that isn't above a divided by b, held; 0, if b is 0.
func Floor(a, b int64) int64 {
	if b == 0 {
		return 0
	}
	// 2^63, the only quotient of two numbers that is none.
	if a == math.MinInt64 && b == -1 {
		return math.MaxInt64
	}
	q := a / b
	// The language cuts towards 0: a quotient below 0 that isn't whole is one too great.
	if a%b != 0 && (a < 0) != (b < 0) {
		q--
	}
	return q
}

// Mod: a less b times its quotient downwards, without bounds; 0, if b is 0.
func Mod(a, b int64) int64 {
	if b == 0 {
		return 0
	}
	r := a % b
	if r != 0 && (r < 0) != (b < 0) {
		r += b
	}
	return r
}

// Div: the nearest number to a divided by b, held; 0, if b is 0.
func Div(a, b int64) int64 {
	q, r := Floor(a, b), Mod(a, b)
	if r != 0 && halfOrMore(r, b) {
		q++
	}
	return q
}

// halfOrMore: is r, of Mod by b, at least half of b? Twice r might go over, what lacks to b can't.
func halfOrMore(r, b int64) bool {
	if b < 0 {
		return r <= b-r
	}
	return r >= b-r
}

// Shift: the nearest number to x divided by 2 to the n (n below 0: as 0).
func Shift(x int64, n int) int64 {
	if n <= 0 {
		return x
	}
	// No number is above half of 2^64, and what is just half of it is below 0.
	if n > 63 {
		return 0
	}
	// The highest bit that falls off tells whether half of one or more does.
	return x>>n + x>>(n-1)&1
}

// Clamp: x, but low, if it is below that, and high, if it is above (low, if high is below low).
func Clamp(x, low, high int64) int64 {
	if x < low || high < low {
		return low
	}
	if x > high {
		return high
	}
	return x
}

// Add: the sum, held.
func Add(a, b int64) int64 {
	if b > 0 && a > math.MaxInt64-b {
		return math.MaxInt64
	}
	if b < 0 && a < math.MinInt64-b {
		return math.MinInt64
	}
	return a + b
}

// Mul: the product, held.
func Mul(a, b int64) int64 {
	high, low := bits.Mul64(size(a), size(b))
	negative := (a < 0) != (b < 0)
	if negative && (high != 0 || low > 1<<63) {
		return math.MinInt64
	}
	if !negative && (high != 0 || low > math.MaxInt64) {
		return math.MaxInt64
	}
	return a * b
}

// Gcd: the greatest number that divides both, held; 0 of 0 and 0.
func Gcd(a, b int64) int64 {
	x, y := size(a), size(b)
	for y != 0 {
		x, y = y, x%y
	}
	if x > math.MaxInt64 {
		return math.MaxInt64
	}
	return int64(x)
}

// size: a number without sign; unsigned, as that of the least int64 is no int64.
func size(x int64) uint64 {
	if x < 0 {
		return -uint64(x)
	}
	return uint64(x)
}
