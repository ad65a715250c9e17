package cell_test

import (
	"math"
	"strings"
	"testing"

	"lapidary/api"
	"lapidary/calc"
	"lapidary/cell"
)

func number(n int64) api.Value { return api.Value{Kind: api.Int, I: n} }
func text(s string) api.Value  { return api.Value{Kind: api.Text, S: s} }
func truth(b bool) api.Value   { return api.Value{Kind: api.Bool, B: b} }

var null = api.Value{}

// rising are right values, each less than the next one.
func rising() []api.Value {
	return []api.Value{
		null,
		truth(false), truth(true),
		number(math.MinInt64), number(-256), number(-2), number(-1), number(0), number(1), number(2), number(255), number(256), number(math.MaxInt64),
		text(""), text("\x01"), text(" "), text("'"), text("1"), text("10"), text("9"), text("A"), text("B"), text("a"), text("a\x01"), text("aa"), text("ab"), text("b"),
		text("z"), text("\u00e9"), text("\u20ac"), text("\uffff"), text("\U00010000"), text("\U0010ffff"),
	}
}

// wrong are values that aren't right.
func wrong() []api.Value {
	return []api.Value{
		{Kind: 4}, {Kind: 255}, {Kind: 4, I: 1}, {Kind: 9, S: "a"}, {Kind: 9, B: true},
		{I: 1}, {S: "a"}, {B: true}, {I: 1, S: "a", B: true},
		{Kind: api.Int, S: "a"}, {Kind: api.Int, I: 1, S: "a"}, {Kind: api.Int, B: true}, {Kind: api.Int, I: -1, B: true},
		{Kind: api.Text, I: 1}, {Kind: api.Text, S: "a", I: -1}, {Kind: api.Text, B: true}, {Kind: api.Text, S: "a", B: true},
		{Kind: api.Bool, I: 1}, {Kind: api.Bool, B: true, I: 1}, {Kind: api.Bool, S: "a"}, {Kind: api.Bool, B: true, S: "\x00"},
		text(strings.Repeat("a", api.MaxText+1)), text(strings.Repeat("\u20ac", api.MaxText/3) + "a"), text(strings.Repeat("a", 5000)),
		text("\x00"), text("a\x00"), text("\x00a"), text("a\x00b"),
		text("\xff"), text("a\x80"), text("\xc3"), text("\xc0\x80"), text("\xed\xa0\x80"), text("\xf4\x90\x80\x80"), text("\u20ac\xe2\x82"),
	}
}

// P2.1: what is right, and what isn't.
func TestRight(t *testing.T) {
	l := append(rising(),
		text(strings.Repeat("a", api.MaxText)), text(strings.Repeat("\u20ac", api.MaxText/3)), text(strings.Repeat("'", api.MaxText)),
		text("it's"), text("\x7f\n\t"), text("\ufffd"))
	for _, v := range l {
		if !cell.Right(v) {
			t.Errorf("Right(%+v) = false", v)
		}
	}
	for _, v := range wrong() {
		if cell.Right(v) {
			t.Errorf("Right(%+v) = true", v)
		}
	}
}

// P2.1: the order of all values.
func TestLessAndSame(t *testing.T) {
	for i, a := range rising() {
		for k, b := range rising() {
			if got := cell.Less(a, b); got != (i < k) {
				t.Errorf("Less(%+v, %+v) = %v", a, b, got)
			}
			if got := cell.Same(a, b); got != (i == k) {
				t.Errorf("Same(%+v, %+v) = %v", a, b, got)
			}
		}
	}
}

// P2.1: two of one kind are held against each other, Null tells nothing, others are of another type.
func TestCompare(t *testing.T) {
	for i, a := range rising() {
		for k, b := range rising() {
			c, known, e := cell.Compare(a, b)
			wantC, wantKnown, wantE := 0, false, api.OK
			switch {
			case a.Kind == api.Null || b.Kind == api.Null:
			case a.Kind != b.Kind:
				wantE = api.ErrType
			default:
				wantKnown = true
				if i < k {
					wantC = -1
				} else if i > k {
					wantC = 1
				}
			}
			if c != wantC || known != wantKnown || e != wantE {
				t.Errorf("Compare(%+v, %+v) = %d, %v, %d; want %d, %v, %d", a, b, c, known, e, wantC, wantKnown, wantE)
			}
		}
	}
}

// P2.2: the tables of truth, whole.
func TestTruth(t *testing.T) {
	no, yes := truth(false), truth(true)
	for _, c := range []struct{ a, b, and, or api.Value }{
		{no, no, no, no}, {no, null, no, null}, {no, yes, no, yes},
		{null, no, no, null}, {null, null, null, null}, {null, yes, null, yes},
		{yes, no, no, yes}, {yes, null, null, yes}, {yes, yes, yes, yes},
	} {
		if v, e := cell.And(c.a, c.b); v != c.and || e != api.OK {
			t.Errorf("And(%+v, %+v) = %+v, %d", c.a, c.b, v, e)
		}
		if v, e := cell.Or(c.a, c.b); v != c.or || e != api.OK {
			t.Errorf("Or(%+v, %+v) = %+v, %d", c.a, c.b, v, e)
		}
	}
	for _, c := range []struct{ a, not api.Value }{{no, yes}, {yes, no}, {null, null}} {
		if v, e := cell.Not(c.a); v != c.not || e != api.OK {
			t.Errorf("Not(%+v) = %+v, %d", c.a, v, e)
		}
	}
}

// P2.2: what is no truth is of another type, also beside one that would settle it.
func TestNoTruth(t *testing.T) {
	isTruth := func(v api.Value) bool { return v.Kind == api.Null || v.Kind == api.Bool }
	for _, a := range rising() {
		for _, b := range rising() {
			if isTruth(a) && isTruth(b) {
				continue
			}
			if v, e := cell.And(a, b); v != null || e != api.ErrType {
				t.Errorf("And(%+v, %+v) = %+v, %d", a, b, v, e)
			}
			if v, e := cell.Or(a, b); v != null || e != api.ErrType {
				t.Errorf("Or(%+v, %+v) = %+v, %d", a, b, v, e)
			}
		}
		if isTruth(a) {
			continue
		}
		if v, e := cell.Not(a); v != null || e != api.ErrType {
			t.Errorf("Not(%+v) = %+v, %d", a, v, e)
		}
	}
}

// P2.3: values as a statement writes them.
func TestLiteral(t *testing.T) {
	for _, c := range []struct {
		v    api.Value
		want string
	}{
		{null, "NULL"}, {truth(true), "TRUE"}, {truth(false), "FALSE"},
		{number(0), "0"}, {number(-7), "-7"}, {number(math.MaxInt64), "9223372036854775807"}, {number(math.MinInt64), "-9223372036854775808"},
		{text(""), "''"}, {text("a"), "'a'"}, {text("it's"), "'it''s'"}, {text("'"), "''''"}, {text("''"), "''''''"}, {text("'a'"), "'''a'''"},
		{text("NULL"), "'NULL'"}, {text("a\"\\\n"), "'a\"\\\n'"}, {text("\u20ac"), "'\u20ac'"},
		{text(strings.Repeat("'", api.MaxText)), "'" + strings.Repeat("''", api.MaxText) + "'"},
	} {
		if s := cell.Literal(c.v); s != c.want {
			t.Errorf("Literal(%+v) = %q; want %q", c.v, s, c.want)
		}
	}
	for _, v := range rising() {
		if v.Kind == api.Int && cell.Literal(v) != calc.Dec(v.I) {
			t.Errorf("Literal(%+v) = %q", v, cell.Literal(v))
		}
	}
}

// answer is what all calls say of two values.
type answer struct {
	right, less, same, known bool
	c                        int
	and, or, not             api.Value
	e                        [4]api.Errno
	literal                  string
}

func ask(a, b api.Value) (r answer) {
	r.right, r.less, r.same = cell.Right(a), cell.Less(a, b), cell.Same(a, b)
	r.c, r.known, r.e[0] = cell.Compare(a, b)
	r.and, r.e[1] = cell.And(a, b)
	r.or, r.e[2] = cell.Or(a, b)
	r.not, r.e[3] = cell.Not(a)
	r.literal = cell.Literal(a)
	return r
}

// P1, P2: every call ends without a panic, of values that aren't right too, and answers the same however often it is asked.
func TestAgain(t *testing.T) {
	l := append(rising(), wrong()...)
	first := map[[2]api.Value]answer{}
	for range 2 {
		for _, a := range l {
			for _, b := range l {
				got := ask(a, b)
				if was, ok := first[[2]api.Value{a, b}]; ok && was != got {
					t.Fatalf("%+v, %+v: %+v, then %+v", a, b, was, got)
				}
				first[[2]api.Value{a, b}] = got
			}
		}
	}
}
