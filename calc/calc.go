// Package calc is layer 1: numbers of 64 bits, with bounds.
package calc

import (
	"math"
	"strconv"

	"lapidary/api"
)

// Add is the sum.
func Add(a, b int64) (int64, api.Errno) {
	sum := a + b
	if (sum > a) != (b > 0) { // it went round
		return 0, api.ErrOver
	}
	return sum, api.OK
}

// Sub is the difference.
func Sub(a, b int64) (int64, api.Errno) {
	rest := a - b
	if (rest < a) != (b > 0) { // it went round
		return 0, api.ErrOver
	}
	return rest, api.OK
}

// Mul is the product.
func Mul(a, b int64) (int64, api.Errno) {
	switch b {
	case 0:
		return 0, api.OK
	case -1: // -2^63 by -1 goes round to itself, so dividing back wouldn't tell
		return Neg(a)
	}
	product := a * b
	if product/b != a {
		return 0, api.ErrOver
	}
	return product, api.OK
}

// Div is the quotient, towards 0.
func Div(a, b int64) (int64, api.Errno) {
	if b == 0 {
		return 0, api.ErrZero
	}
	if a == math.MinInt64 && b == -1 {
		return 0, api.ErrOver
	}
	return a / b, api.OK
}

// Mod is what Div leaves: its sign is that of a.
func Mod(a, b int64) (int64, api.Errno) {
	if b == 0 {
		return 0, api.ErrZero
	}
	return a % b, api.OK
}

// Neg is the negative.
func Neg(a int64) (int64, api.Errno) {
	return Sub(0, a)
}

// Read is the number of which s are the digits.
func Read(s string) (int64, api.Errno) {
	if s == "" {
		return 0, api.ErrForm
	}
	n, e := int64(0), api.OK
	for _, r := range s {
		if r < '0' || r > '9' {
			return 0, api.ErrForm
		}
		// A number beyond the bound is read to its end: a wrong form goes first.
		if e == api.OK {
			n, e = push(n, int64(r-'0'))
		}
	}
	return n, e
}

// push sets a digit behind those of n.
func push(n, digit int64) (int64, api.Errno) {
	tens, e := Mul(n, 10)
	if e != api.OK {
		return 0, e
	}
	return Add(tens, digit)
}

// Dec is n in digits, with - ahead, if it is below 0.
func Dec(n int64) string {
	return strconv.FormatInt(n, 10)
}
