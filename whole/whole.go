// Package whole is layer 1: whole numbers that don't go round: see shared/doc/01-whole.md.
package whole

import (
	"strconv"

	"wharfage/api"
)

// Add: a sum; false: it is too great, or too small.
func Add(a, b int64) (int64, bool) {
	sum := a + b
	// Only of two numbers alike in sign can the sum go round, and then its sign is the other one.
	if (a < 0) == (b < 0) && (sum < 0) != (a < 0) {
		return 0, false
	}
	return sum, true
}

// Mul: a product; false: it is too great, or too small.
func Mul(a, b int64) (int64, bool) {
	if a == 0 || b == 0 {
		return 0, true
	}
	product := a * b
	// The sign is looked at, too: the least number by -1 goes round to itself, which its quotient doesn't tell.
	below := (a < 0) != (b < 0)
	if product/b != a || (product < 0) != below {
		return 0, false
	}
	return product, true
}

// Sum: all; false: at some place it is too great, or too small.
func Sum(l []int64) (int64, bool) {
	sum := int64(0)
	for _, n := range l {
		next, ok := Add(sum, n)
		if !ok {
			return 0, false
		}
		sum = next
	}
	return sum, true
}

// Ceil: a by b, rounded up; 0, if a is below 0, or b below 1.
func Ceil(a, b int64) int64 {
	if a < 0 || b < 1 {
		return 0
	}
	// Not (a + b - 1) / b: that sum may go round.
	if a%b == 0 {
		return a / b
	}
	return a/b + 1
}

// Parse: a number from 0 to api.MaxWhole, as Text tells it.
func Parse(s string) (int64, bool) {
	if s == "" || len(s) > 1 && s[0] == '0' {
		return 0, false
	}
	n := int64(0)
	for _, r := range s {
		if r < '0' || r > '9' {
			return 0, false
		}
		// n was at most api.MaxWhole, so this doesn't go round.
		n = n*10 + int64(r-'0')
		if n > api.MaxWhole {
			return 0, false
		}
	}
	return n, true
}

// Text: a number's digits, with - ahead below 0.
func Text(n int64) string { return strconv.FormatInt(n, 10) }
