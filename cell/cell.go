// Package cell is layer 2: values, and what is known of them.
package cell

import (
	"cmp"
	"strings"
	"unicode/utf8"

	"lapidary/api"
	"lapidary/calc"
)

// open is what v says: nil of Null, a bool, an int64 or a string of the other
// kinds. A value of no kind is handed on as it is, so that no case takes it.
func open(v api.Value) any {
	switch v.Kind {
	case api.Null:
		return nil
	case api.Bool:
		return v.B
	case api.Int:
		return v.I
	case api.Text:
		return v.S
	}
	return v
}

// Right tells whether v is of a kind, says what its kind says and nothing else.
func Right(v api.Value) bool {
	switch x := open(v).(type) {
	case nil:
		return v == api.Value{}
	case bool:
		return v == truth(x)
	case int64:
		return v == api.Value{Kind: api.Int, I: x}
	case string:
		return v == api.Value{Kind: api.Text, S: x} && rightText(x)
	}
	return false
}

func rightText(s string) bool {
	return len(s) <= api.MaxText && utf8.ValidString(s) && strings.IndexByte(s, 0) < 0
}

// Less is the order of all values.
func Less(a, b api.Value) bool {
	return order(open(a), open(b)) < 0
}

// Same tells whether neither value is less than the other.
func Same(a, b api.Value) bool {
	return order(open(a), open(b)) == 0
}

// Compare holds two values of one kind against each other; false: one is Null.
func Compare(a, b api.Value) (int, bool, api.Errno) {
	x, y := open(a), open(b)
	if x == nil || y == nil {
		return 0, false, api.OK
	}
	if rank(x) != rank(y) {
		return 0, false, api.ErrType
	}
	return order(x, y), true, api.OK
}

// rank is where the values of an opened value's kind stand among the others.
func rank(x any) int {
	switch x.(type) {
	case nil:
		return 0
	case bool:
		return 1
	case int64:
		return 2
	case string:
		return 3
	}
	return 4
}

// order is -1, 0 or 1, as the opened value x stands ahead of y, with it, behind it.
func order(x, y any) int {
	if c := cmp.Compare(rank(x), rank(y)); c != 0 {
		return c
	}
	// From here on y is of x's type, since their ranks are the same.
	switch v := x.(type) {
	case bool:
		return orderTruth(v, y.(bool))
	case int64:
		return cmp.Compare(v, y.(int64))
	case string:
		return strings.Compare(v, y.(string))
	}
	return 0
}

func orderTruth(x, y bool) int {
	switch {
	case x == y:
		return 0
	case y:
		return -1
	}
	return 1
}

// And is false, if any of the two is; else Null, if any is; else true.
func And(a, b api.Value) (api.Value, api.Errno) {
	return join(a, b, false)
}

// Or is true, if any of the two is; else Null, if any is; else false.
func Or(a, b api.Value) (api.Value, api.Errno) {
	return join(a, b, true)
}

// Not turns what is known; Null stays.
func Not(a api.Value) (api.Value, api.Errno) {
	switch x := open(a).(type) {
	case nil:
		return api.Value{}, api.OK
	case bool:
		return truth(!x), api.OK
	}
	return api.Value{}, api.ErrType
}

// join is what two truths come to where a single one that is strong settles it.
func join(a, b api.Value, strong bool) (api.Value, api.Errno) {
	x, y := open(a), open(b)
	if !isTruth(x) || !isTruth(y) {
		return api.Value{}, api.ErrType
	}
	if says(x, strong) || says(y, strong) {
		return truth(strong), api.OK
	}
	if x == nil || y == nil {
		return api.Value{}, api.OK
	}
	return truth(!strong), api.OK
}

// isTruth tells whether an opened value is truth, known or not.
func isTruth(x any) bool {
	switch x.(type) {
	case nil, bool:
		return true
	}
	return false
}

// says tells whether an opened value is known to be b.
func says(x any, b bool) bool {
	known, ok := x.(bool)
	return ok && known == b
}

func truth(b bool) api.Value {
	return api.Value{Kind: api.Bool, B: b}
}

// Literal is v as a statement writes it.
func Literal(v api.Value) string {
	switch x := open(v).(type) {
	case nil:
		return "NULL"
	case bool:
		if x {
			return "TRUE"
		}
		return "FALSE"
	case int64:
		return calc.Dec(x)
	case string:
		return "'" + strings.ReplaceAll(x, "'", "''") + "'"
	}
	return ""
}
