package key_test

import (
	"bytes"
	"math"
	"slices"
	"strings"
	"testing"

	"lapidary/api"
	"lapidary/cell"
	"lapidary/key"
)

func number(n int64) api.Value { return api.Value{Kind: api.Int, I: n} }
func text(s string) api.Value  { return api.Value{Kind: api.Text, S: s} }
func truth(b bool) api.Value   { return api.Value{Kind: api.Bool, B: b} }

var null = api.Value{}

var (
	longest = strings.Repeat("a", api.MaxText)
	widest  = strings.Repeat("\u20ac", api.MaxText/3)
)

// sample is a row and the bytes that the chapter gives it.
type sample struct {
	l []api.Value
	p []byte
}

func samples() []sample {
	return []sample{
		{nil, nil},
		{[]api.Value{null}, []byte{1}},
		{[]api.Value{null, null}, []byte{1, 1}},
		{[]api.Value{truth(false)}, []byte{2, 0}},
		{[]api.Value{truth(true)}, []byte{2, 1}},
		{[]api.Value{number(math.MinInt64)}, []byte{3, 0, 0, 0, 0, 0, 0, 0, 0}},
		{[]api.Value{number(math.MinInt64 + 1)}, []byte{3, 0, 0, 0, 0, 0, 0, 0, 1}},
		{[]api.Value{number(-256)}, []byte{3, 0x7f, 255, 255, 255, 255, 255, 255, 0}},
		{[]api.Value{number(-2)}, []byte{3, 0x7f, 255, 255, 255, 255, 255, 255, 254}},
		{[]api.Value{number(-1)}, []byte{3, 0x7f, 255, 255, 255, 255, 255, 255, 255}},
		{[]api.Value{number(0)}, []byte{3, 0x80, 0, 0, 0, 0, 0, 0, 0}},
		{[]api.Value{number(1)}, []byte{3, 0x80, 0, 0, 0, 0, 0, 0, 1}},
		{[]api.Value{number(0x0102030405060708)}, []byte{3, 0x81, 2, 3, 4, 5, 6, 7, 8}},
		{[]api.Value{number(math.MaxInt64)}, []byte{3, 255, 255, 255, 255, 255, 255, 255, 255}},
		{[]api.Value{text("")}, []byte{4, 0}},
		{[]api.Value{text("a")}, []byte{4, 'a', 0}},
		{[]api.Value{text("\x01\x04")}, []byte{4, 1, 4, 0}},
		{[]api.Value{text("\u20ac")}, []byte{4, 0xe2, 0x82, 0xac, 0}},
		{[]api.Value{text(longest)}, []byte("\x04" + longest + "\x00")},
		{[]api.Value{text(widest)}, []byte("\x04" + widest + "\x00")},
		{[]api.Value{text("a"), null}, []byte{4, 'a', 0, 1}},
		{[]api.Value{text(""), text(""), text("")}, []byte{4, 0, 4, 0, 4, 0}},
		{[]api.Value{null, truth(true), number(-1), text("ab"), truth(false)}, []byte{1, 2, 1, 3, 0x7f, 255, 255, 255, 255, 255, 255, 255, 4, 'a', 'b', 0, 2, 0}},
		{slices.Repeat([]api.Value{null}, 3000), bytes.Repeat([]byte{1}, 3000)},
	}
}

// wrong are values that aren't right.
func wrong() []api.Value {
	return []api.Value{
		{Kind: 4}, {Kind: 255}, {Kind: 9, I: 1},
		{I: 1}, {S: "a"}, {B: true},
		{Kind: api.Int, I: 1, S: "a"}, {Kind: api.Int, B: true},
		{Kind: api.Text, S: "a", I: 1}, {Kind: api.Text, S: "a", B: true},
		{Kind: api.Bool, I: 1}, {Kind: api.Bool, S: "a"},
		text(longest + "a"), text(widest + "a"), text("\x00"), text("a\x00b"), text("\xff"), text("\xc3"), text("a\x80"),
	}
}

// P3.1: a row's bytes, and the row of the bytes.
func TestBytesAndRead(t *testing.T) {
	for _, c := range samples() {
		p, e := key.Bytes(c.l...)
		if e != api.OK || !bytes.Equal(p, c.p) {
			t.Errorf("Bytes(%+v) = % x, %d; want % x", c.l, p, e, c.p)
		}
		l, e := key.Read(c.p)
		if e != api.OK || !slices.Equal(l, c.l) {
			t.Errorf("Read(% x) = %+v, %d; want %+v", c.p, l, e, c.l)
		}
	}
	if l, e := key.Read([]byte{}); e != api.OK || len(l) != 0 {
		t.Errorf("Read of no bytes = %+v, %d", l, e)
	}
}

// P3.1: a value that isn't right, wherever it stands.
func TestBytesWrong(t *testing.T) {
	for _, v := range wrong() {
		for _, l := range [][]api.Value{{v}, {v, null}, {number(1), v}, {text("a"), v, truth(true)}} {
			if p, e := key.Bytes(l...); e != api.ErrForm || len(p) != 0 {
				t.Errorf("Bytes(%+v) = % x, %d", l, p, e)
			}
		}
	}
}

// P3.1: bytes that are no row's, wherever they stand.
func TestReadWrong(t *testing.T) {
	for _, s := range []string{
		"\x00", "\x05", "\x80", "\xff", "a",
		"\x02", "\x02\x02", "\x02\xff", "\x02\x01\x01\x00",
		"\x03", "\x03\x80\x00\x00\x00\x00\x00\x00", "\x03\x80\x00\x00\x00\x00\x00\x00\x00\x00",
		"\x04", "\x04a", "\x04" + longest, "\x04a\x00\x00", "\x04a\x00b",
		"\x04" + longest + "a\x00", "\x04" + widest + "a\x00", "\x04" + strings.Repeat("a", 5000) + "\x00",
		"\x04\xff\x00", "\x04\xc3\x00", "\x04\xc0\x80\x00", "\x04\xed\xa0\x80\x00", "\x04\xe2\x82\x00\xac",
		"\x01\x00", "\x02\x01\x00", "\x01\xff",
	} {
		for _, ahead := range []string{"", "\x01", "\x02\x00", "\x04a\x00", "\x03\x80\x00\x00\x00\x00\x00\x00\x00"} {
			if l, e := key.Read([]byte(ahead + s)); e != api.ErrForm || len(l) != 0 {
				t.Errorf("Read(% x) = %+v, %d", ahead+s, l, e)
			}
		}
	}
}

// P3.1: a row's bytes cut short are those of its first values, or no row's.
func TestReadCutShort(t *testing.T) {
	l := []api.Value{null, number(-1), text(""), truth(true), text("a\u20ac"), number(0), null}
	ends := map[int]int{0: 0} // of how many bytes: how many values
	for i := range l {
		p, _ := key.Bytes(l[:i+1]...)
		ends[len(p)] = i + 1
	}
	p, _ := key.Bytes(l...)
	for n := range p {
		got, e := key.Read(p[:n])
		if values, whole := ends[n]; whole && (e != api.OK || !slices.Equal(got, l[:values])) {
			t.Errorf("Read(% x) = %+v, %d", p[:n], got, e)
		} else if !whole && (e != api.ErrForm || len(got) != 0) {
			t.Errorf("Read(% x) = %+v, %d", p[:n], got, e)
		}
	}
}

// upTo are the strings of at most n bytes, all of few.
func upTo(n int, few string) []string {
	all, last := []string{""}, []string{""}
	for range n {
		var next []string
		for _, s := range last {
			for i := range len(few) {
				next = append(next, s+few[i:i+1])
			}
		}
		all, last = append(all, next...), next
	}
	return all
}

// P3.1: of all short bytes those are a row's that some row has.
func TestReadShort(t *testing.T) {
	const few = "\x00\x01\x02\x03\x04\x05a\xc3\xa9\xff"
	values := []api.Value{null, truth(false), truth(true)}
	for _, s := range upTo(2, few) {
		if cell.Right(text(s)) {
			values = append(values, text(s))
		}
	}
	rows := map[string][]api.Value{"": nil}
	work := [][]api.Value{nil}
	for len(work) > 0 {
		l := work[0]
		work = work[1:]
		for _, v := range values {
			longer := append(slices.Clone(l), v)
			if p, _ := key.Bytes(longer...); len(p) <= 4 {
				rows[string(p)] = longer
				work = append(work, longer)
			}
		}
	}
	for _, s := range upTo(4, few) {
		want, is := rows[s]
		got, e := key.Read([]byte(s))
		if (e == api.OK) != is || (e == api.ErrForm) == is || !slices.Equal(got, want) {
			t.Fatalf("Read(% x) = %+v, %d; want %+v, %v", s, got, e, want, is)
		}
	}
}

// rising are right values, each less than the next one.
func rising() []api.Value {
	return []api.Value{
		null, truth(false), truth(true),
		number(math.MinInt64), number(math.MinInt64 + 1), number(-1 << 32), number(-257), number(-256), number(-255), number(-2), number(-1), number(0), number(1), number(2), number(255), number(256), number(1 << 32), number(math.MaxInt64 - 1), number(math.MaxInt64),
		text(""), text("\x01"), text("\x01\x01"), text("\x02"), text("A"), text("a"), text("a\x01"), text("aa"), text("aaa"), text(longest), text("ab"), text("b"), text("\x7f"), text("\u00e9"), text(widest), text("\uffff"), text("\U0010ffff"),
	}
}

// P3.2: of two values the bytes are less just if the value is.
func TestOrderOfValues(t *testing.T) {
	for i, a := range rising() {
		for k, b := range rising() {
			p, _ := key.Bytes(a)
			q, _ := key.Bytes(b)
			if key.Less(p, q) != (i < k) || cell.Less(a, b) != (i < k) {
				t.Errorf("%+v, %+v: Less(% x, % x) = %v", a, b, p, q, key.Less(p, q))
			}
		}
	}
}

// P3.2: of rows with as many values the first place settles it where they aren't the same.
func TestOrderOfRows(t *testing.T) {
	var rows [][]api.Value
	for _, a := range rising() {
		for _, b := range []api.Value{null, truth(true), number(-1), number(0), text(""), text("\x01"), text("a"), text("\U0010ffff")} {
			rows = append(rows, []api.Value{a, b, b}, []api.Value{a, b, null}, []api.Value{text("a"), a, b})
		}
	}
	for _, a := range rows {
		p, _ := key.Bytes(a...)
		for _, b := range rows {
			want := false
			for i := range a {
				if !cell.Same(a[i], b[i]) {
					want = cell.Less(a[i], b[i])
					break
				}
			}
			if q, _ := key.Bytes(b...); key.Less(p, q) != want {
				t.Fatalf("%+v, %+v: Less(% x, % x) = %v", a, b, p, q, !want)
			}
		}
	}
}

// P3.1: byte by byte; a beginning is less.
func TestLess(t *testing.T) {
	l := []string{"", "\x00", "\x00\x00", "\x00\xff", "\x01", "a", "a\x00", "aa", "ab", "b", "\x7f", "\x80", "\xfe\xff", "\xff", "\xff\x00", "\xff\xff"}
	for i, a := range l {
		for k, b := range l {
			if got := key.Less([]byte(a), []byte(b)); got != (i < k) {
				t.Errorf("Less(% x, % x) = %v", a, b, got)
			}
		}
	}
	if key.Less(nil, []byte{}) || key.Less([]byte{}, nil) || key.Less(nil, nil) || !key.Less(nil, []byte{0}) || key.Less([]byte{0}, nil) {
		t.Error("Less of none")
	}
}

// P3.3: what the chapter names.
func TestBehind(t *testing.T) {
	for _, c := range []struct{ p, want string }{
		{"", ""}, {"\xff", ""}, {"\xff\xff\xff", ""}, {strings.Repeat("\xff", 5000), ""},
		{"\x00", "\x01"}, {"\x01", "\x02"}, {"\x01\xff", "\x02"}, {"\x03\xff\xff", "\x04"}, {"\xfe", "\xff"}, {"\xfe\xff", "\xff"},
		{"\x00\x00", "\x00\x01"}, {"\xff\x00", "\xff\x01"}, {"\xff\x00\xff", "\xff\x01"}, {"\xff\xfe\xff", "\xff\xff"}, {"a\xffb", "a\xffc"}, {"\x04a\x00", "\x04a\x01"},
	} {
		if got := key.Behind([]byte(c.p)); string(got) != c.want {
			t.Errorf("Behind(% x) = % x; want % x", c.p, got, c.want)
		}
	}
	if got := key.Behind(nil); len(got) != 0 {
		t.Errorf("Behind of none = % x", got)
	}
}

// P3.3: whatever isn't less than p begins with p just if it is less than the bytes behind p.
func TestBehindIsLeast(t *testing.T) {
	const few = "\x00\x01\x7f\xfe\xff"
	for _, p := range upTo(3, few) {
		behind := key.Behind([]byte(p))
		for _, q := range upTo(4, few) {
			if q < p {
				continue
			}
			below := len(behind) == 0 || key.Less([]byte(q), behind)
			if below != strings.HasPrefix(q, p) {
				t.Fatalf("Behind(% x) = % x, but % x", p, behind, q)
			}
		}
	}
}

// What is handed in is not changed, its spare room neither.
func TestHandedIn(t *testing.T) {
	l := []api.Value{text("a"), number(1), truth(true), {Kind: api.Int, I: 7}}
	was := slices.Clone(l)
	key.Bytes(l[:3]...)
	if !slices.Equal(l, was) {
		t.Errorf("Bytes changed its values: %+v", l)
	}
	p := []byte{4, 'a', 0, 1, 0xff, 0xff, 9, 9}
	before := bytes.Clone(p)
	key.Read(p[:4])
	key.Read(p[:5])
	key.Less(p[:4], p[:6])
	key.Behind(p[:6])
	key.Behind(p[:3])
	if !bytes.Equal(p, before) {
		t.Errorf("the bytes were changed: % x", p)
	}
}

// fill writes over a list and over its spare room.
func fill[T any](l []T, v T) {
	l = l[:cap(l)]
	for i := range l {
		l[i] = v
	}
}

// An answer is new memory: it outlasts what was handed in, and what is written over other answers.
func TestAnswersAreNew(t *testing.T) {
	l := []api.Value{text("ab"), null}
	p, _ := key.Bytes(l...)
	other, _ := key.Bytes(l...)
	fill(other, 9)
	fill(l, number(9))
	if !bytes.Equal(p, []byte{4, 'a', 'b', 0, 1}) {
		t.Errorf("Bytes' answer changed: % x", p)
	}
	got, _ := key.Read(p)
	again, _ := key.Read(p)
	behind := key.Behind(p)
	fill(again, number(9))
	fill(key.Behind(p), 9)
	fill(p, 9)
	if !slices.Equal(got, []api.Value{text("ab"), null}) || !bytes.Equal(behind, []byte{4, 'a', 'b', 0, 2}) {
		t.Errorf("an answer changed: %+v, % x", got, behind)
	}
}

// P1, P2: every call ends, and answers the same however often it is asked.
func TestAgain(t *testing.T) {
	type answer struct {
		p, row, behind string
		e, e2          api.Errno
		less           bool
	}
	first := map[string]answer{}
	for range 2 {
		for _, s := range upTo(3, "\x00\x01\x02\x03\x04a\xff") {
			var got answer
			l, e := key.Read([]byte(s))
			p, e2 := key.Bytes(append(l, text(s))...)
			for _, v := range l {
				got.row += cell.Literal(v) + ","
			}
			got.e, got.p, got.e2, got.behind, got.less = e, string(p), e2, string(key.Behind([]byte(s))), key.Less([]byte(s), p)
			if was, ok := first[s]; ok && was != got {
				t.Fatalf("% x: %+v, then %+v", s, was, got)
			}
			first[s] = got
		}
	}
}
