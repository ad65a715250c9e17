package calc_test

import (
	"math"
	"math/big"
	"strings"
	"testing"

	"lapidary/api"
	"lapidary/calc"
)

const (
	most  = math.MaxInt64
	least = math.MinInt64
)

// edges are numbers about 0, about the bounds, and about where products leave them.
func edges() []int64 {
	var l []int64
	for _, n := range []int64{0, 7, -7, 10, -10, 1 << 31, -1 << 31, 1 << 32, -1 << 32, 3037000500, -3037000500, most / 2, least / 2, most / 3, least / 3, most - 2, least + 2} {
		for d := int64(-2); d <= 2; d++ {
			l = append(l, n+d)
		}
	}
	return l
}

// bounded is what a call with bounds must answer where the true number is n.
func bounded(n *big.Int) (int64, api.Errno) {
	if !n.IsInt64() {
		return 0, api.ErrOver
	}
	return n.Int64(), api.OK
}

func check(t *testing.T, name string, a, b, got int64, e api.Errno, want *big.Int) {
	t.Helper()
	n, we := bounded(want)
	if got != n || e != we {
		t.Errorf("%s(%d, %d) = %d, %d; want %d, %d", name, a, b, got, e, n, we)
	}
}

// P1.1: the four rules and what is left, held against numbers without bounds.
func TestReckoning(t *testing.T) {
	for _, a := range edges() {
		for _, b := range edges() {
			x, y := big.NewInt(a), big.NewInt(b)
			n, e := calc.Add(a, b)
			check(t, "Add", a, b, n, e, new(big.Int).Add(x, y))
			n, e = calc.Sub(a, b)
			check(t, "Sub", a, b, n, e, new(big.Int).Sub(x, y))
			n, e = calc.Mul(a, b)
			check(t, "Mul", a, b, n, e, new(big.Int).Mul(x, y))
			if b == 0 {
				continue
			}
			n, e = calc.Div(a, b)
			check(t, "Div", a, b, n, e, new(big.Int).Quo(x, y))
			n, e = calc.Mod(a, b)
			check(t, "Mod", a, b, n, e, new(big.Int).Rem(x, y))
		}
		n, e := calc.Neg(a)
		check(t, "Neg", a, 0, n, e, new(big.Int).Neg(big.NewInt(a)))
	}
}

// P1.1: what the chapter names, number by number.
func TestReckoningNamed(t *testing.T) {
	for _, c := range []struct {
		name string
		f    func(int64, int64) (int64, api.Errno)
		a, b int64
		want int64
		e    api.Errno
	}{
		{"Add", calc.Add, most, 1, 0, api.ErrOver},
		{"Add", calc.Add, least, -1, 0, api.ErrOver},
		{"Add", calc.Add, most, 0, most, api.OK},
		{"Add", calc.Add, most, least, -1, api.OK},
		{"Sub", calc.Sub, least, 1, 0, api.ErrOver},
		{"Sub", calc.Sub, 0, least, 0, api.ErrOver},
		{"Sub", calc.Sub, -1, least, most, api.OK},
		{"Sub", calc.Sub, least, least, 0, api.OK},
		{"Mul", calc.Mul, least, -1, 0, api.ErrOver},
		{"Mul", calc.Mul, -1, least, 0, api.ErrOver},
		{"Mul", calc.Mul, least, 1, least, api.OK},
		{"Mul", calc.Mul, most, -1, -most, api.OK},
		{"Mul", calc.Mul, 0, least, 0, api.OK},
		{"Mul", calc.Mul, 1 << 32, 1 << 32, 0, api.ErrOver},
		{"Div", calc.Div, 7, 2, 3, api.OK},
		{"Div", calc.Div, -7, 2, -3, api.OK},
		{"Div", calc.Div, 7, -2, -3, api.OK},
		{"Div", calc.Div, -7, -2, 3, api.OK},
		{"Div", calc.Div, 0, 0, 0, api.ErrZero},
		{"Div", calc.Div, least, 0, 0, api.ErrZero},
		{"Div", calc.Div, least, -1, 0, api.ErrOver},
		{"Div", calc.Div, least, 1, least, api.OK},
		{"Mod", calc.Mod, 7, 2, 1, api.OK},
		{"Mod", calc.Mod, -7, 2, -1, api.OK},
		{"Mod", calc.Mod, 7, -2, 1, api.OK},
		{"Mod", calc.Mod, -7, -2, -1, api.OK},
		{"Mod", calc.Mod, 0, 0, 0, api.ErrZero},
		{"Mod", calc.Mod, least, 0, 0, api.ErrZero},
		{"Mod", calc.Mod, least, -1, 0, api.OK},
	} {
		if n, e := c.f(c.a, c.b); n != c.want || e != c.e {
			t.Errorf("%s(%d, %d) = %d, %d; want %d, %d", c.name, c.a, c.b, n, e, c.want, c.e)
		}
	}
	if n, e := calc.Neg(least); n != 0 || e != api.ErrOver {
		t.Errorf("Neg(%d) = %d, %d", int64(least), n, e)
	}
	if n, e := calc.Neg(most); n != least+1 || e != api.OK {
		t.Errorf("Neg(%d) = %d, %d", int64(most), n, e)
	}
}

// P1.1: digits, with noughts ahead, up to the bound and beyond it; and texts that are none.
func TestRead(t *testing.T) {
	for _, c := range []struct {
		s    string
		want int64
		e    api.Errno
	}{
		{"0", 0, api.OK},
		{"7", 7, api.OK},
		{"007", 7, api.OK},
		{"000", 0, api.OK},
		{"1234567890", 1234567890, api.OK},
		{"9223372036854775806", most - 1, api.OK},
		{"9223372036854775807", most, api.OK},
		{strings.Repeat("0", 5000) + "9223372036854775807", most, api.OK},
		{"9223372036854775808", 0, api.ErrOver},
		{"0009223372036854775808", 0, api.ErrOver},
		{"9223372036854775810", 0, api.ErrOver},
		{"18446744073709551616", 0, api.ErrOver}, // 2^64, which goes round to 0
		{"18446744073709551623", 0, api.ErrOver},
		{strings.Repeat("9", 5000), 0, api.ErrOver},
		{"10000000000000000000000000000000000000000", 0, api.ErrOver},
		{"", 0, api.ErrForm},
		{"-1", 0, api.ErrForm},
		{"+1", 0, api.ErrForm},
		{" 1", 0, api.ErrForm},
		{"1 ", 0, api.ErrForm},
		{"1_000", 0, api.ErrForm},
		{"0x10", 0, api.ErrForm},
		{"1.5", 0, api.ErrForm},
		{"1e3", 0, api.ErrForm},
		{"/", 0, api.ErrForm},
		{":", 0, api.ErrForm},
		{"1\x00", 0, api.ErrForm},
		{"\xff", 0, api.ErrForm},
		{"1\xc2", 0, api.ErrForm},
		{"\u0661", 0, api.ErrForm},               // a digit, but not of 0 to 9
		{"\uff11", 0, api.ErrForm},               // a wide 1
		{"9223372036854775808x", 0, api.ErrForm}, // both errors: the lesser number
		{strings.Repeat("9", 50) + "-", 0, api.ErrForm},
	} {
		if n, e := calc.Read(c.s); n != c.want || e != c.e {
			t.Errorf("Read(%.40q) = %d, %d; want %d, %d", c.s, n, e, c.want, c.e)
		}
	}
}

// P1.1: a number's digits.
func TestDec(t *testing.T) {
	for _, c := range []struct {
		n    int64
		want string
	}{
		{0, "0"}, {7, "7"}, {-7, "-7"}, {10, "10"}, {-100, "-100"},
		{most, "9223372036854775807"}, {least, "-9223372036854775808"},
	} {
		if s := calc.Dec(c.n); s != c.want {
			t.Errorf("Dec(%d) = %q; want %q", c.n, s, c.want)
		}
	}
	for _, n := range edges() {
		if s := calc.Dec(n); s != big.NewInt(n).String() {
			t.Errorf("Dec(%d) = %q", n, s)
		}
		if n < 0 {
			continue
		}
		if back, e := calc.Read(calc.Dec(n)); back != n || e != api.OK {
			t.Errorf("Read(Dec(%d)) = %d, %d", n, back, e)
		}
	}
}

// P1, P2: every call ends, and answers the same however often it is asked, whatever came between.
func TestAgain(t *testing.T) {
	type answer struct {
		n [7]int64
		e [7]api.Errno
		s string
	}
	ask := func(a, b int64) (r answer) {
		r.n[0], r.e[0] = calc.Add(a, b)
		r.n[1], r.e[1] = calc.Sub(a, b)
		r.n[2], r.e[2] = calc.Mul(a, b)
		r.n[3], r.e[3] = calc.Div(a, b)
		r.n[4], r.e[4] = calc.Mod(a, b)
		r.n[5], r.e[5] = calc.Neg(a)
		r.s = calc.Dec(a)
		r.n[6], r.e[6] = calc.Read(r.s)
		return r
	}
	first := map[[2]int64]answer{}
	for range 2 {
		for _, a := range edges() {
			for _, b := range edges() {
				got := ask(a, b)
				if was, ok := first[[2]int64{a, b}]; ok && was != got {
					t.Fatalf("%d, %d: %v, then %v", a, b, was, got)
				}
				first[[2]int64{a, b}] = got
			}
		}
	}
}
