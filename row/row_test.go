package row_test

import (
	"bytes"
	"math"
	"slices"
	"strings"
	"testing"

	"lapidary/api"
	"lapidary/cell"
	"lapidary/row"
)

func number(n int64) api.Value { return api.Value{Kind: api.Int, I: n} }
func text(s string) api.Value  { return api.Value{Kind: api.Text, S: s} }
func truth(b bool) api.Value   { return api.Value{Kind: api.Bool, B: b} }

var null = api.Value{}

func kinds(l ...api.Kind) []api.Kind { return l }

// as is a list of n columns of one kind.
func as(n int, k api.Kind) []api.Kind { return slices.Repeat(kinds(k), n) }

// long is a text of n bytes.
func long(n int) api.Value { return text(strings.Repeat("a", n)) }

// sample is a row of kinds, and the bytes that the chapter gives it.
type sample struct {
	kinds []api.Kind
	l     []api.Value
	p     string
}

func samples() []sample {
	const i, s, b = api.Int, api.Text, api.Bool
	full := strings.Repeat("a", api.MaxText)
	euros := strings.Repeat("\u20ac", api.MaxText/3)
	return []sample{
		{kinds(i, s), []api.Value{number(1), text("a")}, "\x00\x01\x00\x00\x00\x00\x00\x00\x00\x01a"},
		{kinds(i, s), []api.Value{null, null}, "\x03"},
		{kinds(i), []api.Value{null}, "\x01"},
		{kinds(i), []api.Value{number(0)}, "\x00\x00\x00\x00\x00\x00\x00\x00\x00"},
		{kinds(i), []api.Value{number(-1)}, "\x00\xff\xff\xff\xff\xff\xff\xff\xff"},
		{kinds(i), []api.Value{number(-2)}, "\x00\xfe\xff\xff\xff\xff\xff\xff\xff"},
		{kinds(i), []api.Value{number(256)}, "\x00\x00\x01\x00\x00\x00\x00\x00\x00"},
		{kinds(i), []api.Value{number(0x0102030405060708)}, "\x00\x08\x07\x06\x05\x04\x03\x02\x01"},
		{kinds(i), []api.Value{number(math.MinInt64)}, "\x00\x00\x00\x00\x00\x00\x00\x00\x80"},
		{kinds(i), []api.Value{number(math.MaxInt64)}, "\x00\xff\xff\xff\xff\xff\xff\xff\x7f"},
		{kinds(s), []api.Value{null}, "\x01"},
		{kinds(s), []api.Value{text("")}, "\x00\x00"},
		{kinds(s), []api.Value{text("\x01")}, "\x00\x01\x01"},
		{kinds(s), []api.Value{text("\u20ac")}, "\x00\x03\u20ac"},
		{kinds(s), []api.Value{text(full)}, "\x00\x3c" + full},
		{kinds(s), []api.Value{text(euros)}, "\x00\x3c" + euros},
		{kinds(b), []api.Value{null}, "\x01"},
		{kinds(b), []api.Value{truth(false)}, "\x00\x00"},
		{kinds(b), []api.Value{truth(true)}, "\x00\x01"},
		{kinds(b, b), []api.Value{null, truth(true)}, "\x01\x01"},
		{kinds(b, b), []api.Value{truth(true), null}, "\x02\x01"},
		{kinds(s, s, s), []api.Value{text(""), null, text("b")}, "\x02\x00\x01b"},
		{as(api.MaxColumns, b), []api.Value{null, truth(true), null, truth(false), truth(true), null, truth(true), null}, "\xa5\x01\x00\x01\x01"},
		{as(api.MaxColumns, i), slices.Repeat([]api.Value{null}, api.MaxColumns), "\xff"},
		{as(api.MaxColumns, s), append(slices.Repeat([]api.Value{null}, api.MaxColumns-1), text("z")), "\x7f\x01z"},
		{as(4, s), []api.Value{text(full), text(full), text(full), long(15)}, "\x00\x3c" + full + "\x3c" + full + "\x3c" + full + "\x0f" + full[:15]}, // just MaxRow
		{kinds(s, i, s, b, s), []api.Value{text(full), number(5), text(full), truth(true), text(full)}, "\x00\x3c" + full + "\x05\x00\x00\x00\x00\x00\x00\x00\x3c" + full + "\x01\x3c" + full},
	}
}

// P4.1: a row's bytes, and the row of the bytes.
func TestBytesAndRead(t *testing.T) {
	for _, c := range samples() {
		if e := row.Fits(c.kinds, c.l); e != api.OK {
			t.Errorf("Fits(%v, %+v) = %d", c.kinds, c.l, e)
		}
		p, e := row.Bytes(c.kinds, c.l)
		if e != api.OK || string(p) != c.p {
			t.Errorf("Bytes(%v, %+v) = % x, %d; want % x", c.kinds, c.l, p, e, c.p)
		}
		l, e := row.Read(c.kinds, []byte(c.p))
		if e != api.OK || !slices.Equal(l, c.l) {
			t.Errorf("Read(%v, % x) = %+v, %d; want %+v", c.kinds, c.p, l, e, c.l)
		}
	}
}

// wrongKinds are lists that are no table's kinds.
func wrongKinds() [][]api.Kind {
	return [][]api.Kind{
		nil, {}, as(api.MaxColumns+1, api.Int), as(1000, api.Bool),
		{api.Null}, {api.Null, api.Int}, {api.Int, api.Null}, {api.Text, api.Null, api.Bool}, append(as(api.MaxColumns-1, api.Int), api.Null),
		{4}, {255}, {api.Int, 9},
	}
}

// refused checks that Fits and Bytes tell the error, and no bytes beside it.
func refused(t *testing.T, k []api.Kind, l []api.Value, want api.Errno) {
	t.Helper()
	if e := row.Fits(k, l); e != want {
		t.Errorf("Fits(%v, %+v) = %d; want %d", k, l, e, want)
	}
	if p, e := row.Bytes(k, l); e != want || len(p) != 0 {
		t.Errorf("Bytes(%v, %+v) = % x, %d; want %d", k, l, p, e, want)
	}
}

// P4.1: kinds that aren't, and too few or too many values, ahead of all other errors.
func TestArg(t *testing.T) {
	wrong, other, far := api.Value{Kind: 9}, text("a"), long(api.MaxText)
	for _, k := range wrongKinds() {
		for _, v := range []api.Value{null, number(1), wrong, far} {
			refused(t, k, slices.Repeat([]api.Value{v}, len(k)), api.ErrArg)
		}
		for _, s := range []string{"", "\x00", "\x01", "\xff", "\x00\x01\x00\x00\x00\x00\x00\x00\x00", "\x00\x00"} {
			if l, e := row.Read(k, []byte(s)); e != api.ErrArg || len(l) != 0 {
				t.Errorf("Read(%v, % x) = %+v, %d", k, s, l, e)
			}
		}
	}
	for _, v := range []api.Value{null, number(1), wrong, other, far} {
		refused(t, kinds(api.Int), nil, api.ErrArg)
		refused(t, kinds(api.Int), []api.Value{v, v}, api.ErrArg)
		refused(t, kinds(api.Int, api.Int), []api.Value{v}, api.ErrArg)
		refused(t, as(api.MaxColumns, api.Int), slices.Repeat([]api.Value{v}, api.MaxColumns+1), api.ErrArg)
		refused(t, as(api.MaxColumns, api.Int), slices.Repeat([]api.Value{v}, api.MaxColumns-1), api.ErrArg)
	}
}

// P4.1: a value that isn't right, ahead of one of another kind and of too many bytes, wherever each stands.
func TestForm(t *testing.T) {
	for _, v := range []api.Value{
		{Kind: 4}, {Kind: 255}, {I: 1}, {S: "a"}, {B: true},
		{Kind: api.Int, S: "a"}, {Kind: api.Int, B: true}, {Kind: api.Bool, I: 1}, {Kind: api.Bool, S: "a"}, {Kind: api.Text, I: 1}, {Kind: api.Text, B: true},
		long(api.MaxText + 1), long(5000), text("\x00"), text("a\x00"), text("\xff"), text("\xc3"), text("a\x80"),
	} {
		for _, k := range []api.Kind{api.Int, api.Text, api.Bool} {
			refused(t, kinds(k), []api.Value{v}, api.ErrForm)
			refused(t, kinds(k, api.Int), []api.Value{v, number(1)}, api.ErrForm)
			refused(t, kinds(k, api.Int), []api.Value{v, truth(true)}, api.ErrForm)
			refused(t, kinds(api.Int, k), []api.Value{truth(true), v}, api.ErrForm)
			full := long(api.MaxText)
			refused(t, kinds(api.Text, api.Text, api.Text, api.Text, k), []api.Value{full, full, full, full, v}, api.ErrForm)
		}
	}
}

// P4.1: a value of another kind, ahead of too many bytes; Null is of every kind.
func TestType(t *testing.T) {
	full := long(api.MaxText)
	for _, k := range []api.Kind{api.Int, api.Text, api.Bool} {
		for _, v := range []api.Value{null, number(0), number(1), text(""), text("1"), truth(false), truth(true)} {
			if v.Kind == k || v.Kind == api.Null {
				if e := row.Fits(kinds(k, api.Int), []api.Value{v, null}); e != api.OK {
					t.Errorf("Fits(%v, %+v) = %d", k, v, e)
				}
				continue
			}
			refused(t, kinds(k), []api.Value{v}, api.ErrType)
			refused(t, kinds(api.Int, k), []api.Value{null, v}, api.ErrType)
			refused(t, kinds(k, api.Int), []api.Value{v, null}, api.ErrType)
			refused(t, kinds(api.Text, api.Text, api.Text, api.Text, k), []api.Value{full, full, full, full, v}, api.ErrType)
		}
	}
}

// P4.1: more than MaxRow bytes, by one and by more.
func TestLong(t *testing.T) {
	full := long(api.MaxText)
	for n := range api.MaxText + 1 {
		l := []api.Value{full, full, full, long(n)}
		if n <= 15 {
			p, e := row.Bytes(as(4, api.Text), l)
			if e != api.OK || len(p) != 1+3*(1+api.MaxText)+1+n {
				t.Errorf("%d bytes: %d, %d", n, len(p), e)
			}
			continue
		}
		refused(t, as(4, api.Text), l, api.ErrLong)
	}
	refused(t, as(api.MaxColumns, api.Text), slices.Repeat([]api.Value{full}, api.MaxColumns), api.ErrLong)
	mixed := kinds(api.Text, api.Text, api.Text, api.Int, api.Text, api.Bool)
	for _, l := range [][]api.Value{{full, full, full, number(1), long(6), truth(true)}, {full, full, full, number(1), long(7), null}, {full, full, full, null, long(14), truth(false)}, {full, full, full, null, long(15), null}} {
		if p, e := row.Bytes(mixed, l); e != api.OK || len(p) != api.MaxRow {
			t.Errorf("Bytes(%+v) = %d bytes, %d", l, len(p), e)
		}
	}
	for _, l := range [][]api.Value{{full, full, full, number(1), long(7), truth(true)}, {full, full, full, number(1), long(8), null}, {full, full, full, null, long(15), truth(false)}, {full, full, full, null, long(16), null}} {
		refused(t, mixed, l, api.ErrLong)
	}
}

// P4.1: bytes that are no row's.
func TestReadWrong(t *testing.T) {
	const i, s, b = api.Int, api.Text, api.Bool
	full := strings.Repeat("a", api.MaxText)
	for _, c := range []struct {
		kinds []api.Kind
		p     string
	}{
		{kinds(i), ""}, {kinds(s), ""}, {as(api.MaxColumns, b), ""},
		{kinds(i), "\x00"}, {kinds(i), "\x00\x01\x00\x00\x00\x00\x00\x00"}, {kinds(i), "\x00\x01\x00\x00\x00\x00\x00\x00\x00\x00"}, {kinds(i), "\x01\x00"},
		{kinds(b), "\x00"}, {kinds(b), "\x00\x02"}, {kinds(b), "\x00\xff"}, {kinds(b), "\x00\x01\x00"}, {kinds(b), "\x01\x01"},
		{kinds(s), "\x00"}, {kinds(s), "\x00\x01"}, {kinds(s), "\x00\x02a"}, {kinds(s), "\x00\x00a"}, {kinds(s), "\x00\x01ab"}, {kinds(s), "\x01\x00"}, {kinds(s), "\x00\xffa"},
		{kinds(s), "\x00\x01\x00"}, {kinds(s), "\x00\x01\xff"}, {kinds(s), "\x00\x02\xe2\x82"}, {kinds(s), "\x00\x3d" + full + "a"}, {kinds(s), "\x00\xff" + strings.Repeat("a", 255)},
		{kinds(s, s), "\x00\x02\xe2\x82\x01\xac"}, {kinds(s, b), "\x00\x01a"}, {kinds(b, s), "\x00\x01\x02a"}, {kinds(b, i), "\x00\x01\x00"},
		{kinds(i), "\x03"}, {kinds(i), "\x81"}, {kinds(i), "\x02\x01\x00\x00\x00\x00\x00\x00\x00"}, {kinds(b), "\x02\x01"}, {kinds(b), "\x80\x01"},
		{kinds(b, b), "\x07"}, {kinds(b, b), "\x04\x01\x01"}, {as(7, b), "\xff"}, {as(7, i), "\x80"},
		{as(4, s), "\x00\x3c" + full + "\x3c" + full + "\x3c" + full + "\x10" + full[:16]}, // a byte beyond MaxRow
		{as(4, s), "\x00\x3c" + full + "\x3c" + full + "\x3c" + full + "\x3c" + full},
		{kinds(i), strings.Repeat("\x00", 5000)},
	} {
		if l, e := row.Read(c.kinds, []byte(c.p)); e != api.ErrForm || len(l) != 0 {
			t.Errorf("Read(%v, % x) = %+v, %d", c.kinds, c.p, l, e)
		}
	}
}

// P4.1: Null's bits of columns that there aren't are 0, of any number of columns.
func TestReadBits(t *testing.T) {
	for n := 1; n <= api.MaxColumns; n++ {
		for bits := range 256 {
			p := []byte{byte(bits)}
			want := make([]api.Value, n)
			for i := range n {
				if bits>>i&1 == 0 {
					p, want[i] = append(p, byte(i&1)), truth(i&1 == 1)
				}
			}
			l, e := row.Read(as(n, api.Bool), p)
			if bits>>n == 0 && (e != api.OK || !slices.Equal(l, want)) || bits>>n != 0 && (e != api.ErrForm || len(l) != 0) {
				t.Errorf("%d columns: Read(% x) = %+v, %d", n, p, l, e)
			}
		}
	}
}

// P4.1: bytes cut short, and bytes with one more behind them, are no row's.
func TestReadCutShort(t *testing.T) {
	for _, c := range samples() {
		for n := range len(c.p) {
			if l, e := row.Read(c.kinds, []byte(c.p[:n])); e != api.ErrForm || len(l) != 0 {
				t.Errorf("Read(%v, % x) = %+v, %d", c.kinds, c.p[:n], l, e)
			}
		}
		for _, more := range []string{"\x00", "\x01", "a", "\xff"} {
			if l, e := row.Read(c.kinds, []byte(c.p+more)); e != api.ErrForm || len(l) != 0 {
				t.Errorf("Read(%v, % x) = %+v, %d", c.kinds, c.p+more, l, e)
			}
		}
	}
}

// P4.1: of all short bytes those that are read are just the row's that they read as.
func TestReadShort(t *testing.T) {
	const few = "\x00\x01\x02\x03\x04a\xc3\xa9\xff"
	for _, c := range []struct {
		kinds []api.Kind
		rows  int // how many rows have at most four bytes, all of few
	}{
		{kinds(api.Bool), 1 + 2},
		{kinds(api.Bool, api.Bool), 1 + 2 + 2 + 4},
		{kinds(api.Text), 1 + 1 + 5 + 26},
		{kinds(api.Text, api.Bool), 1 + 2 + (1 + 5 + 26) + (1+5)*2},
		{kinds(api.Int), 1},
	} {
		read := 0
		work := []string{""}
		for len(work) > 0 {
			s := work[0]
			work = work[1:]
			if l, e := row.Read(c.kinds, []byte(s)); e == api.OK {
				read++
				if p, e := row.Bytes(c.kinds, l); e != api.OK || string(p) != s {
					t.Errorf("Bytes(Read(%v, % x)) = % x, %d", c.kinds, s, p, e)
				}
			}
			for i := 0; i < len(few) && len(s) < 4; i++ {
				work = append(work, s+few[i:i+1])
			}
		}
		if read != c.rows {
			t.Errorf("%v: %d rows; want %d", c.kinds, read, c.rows)
		}
	}
}

// What is handed in is not changed, its spare room neither.
func TestHandedIn(t *testing.T) {
	k := kinds(api.Text, api.Int, api.Bool, api.Null)
	l := []api.Value{text("a"), null, truth(true), {Kind: 9}}
	wasK, wasL := slices.Clone(k), slices.Clone(l)
	row.Fits(k[:3], l[:3])
	p, _ := row.Bytes(k[:3], l[:3])
	p = append(p, 9, 9)
	wasP := bytes.Clone(p)
	row.Read(k[:3], p[:len(p)-2])
	row.Read(k[:3], p)
	if !slices.Equal(k, wasK) || !slices.Equal(l, wasL) || !bytes.Equal(p, wasP) {
		t.Errorf("changed: %v, %+v, % x", k, l, p)
	}
}

// fill writes over a list and over its spare room.
func fill[T any](l []T, v T) {
	l = l[:cap(l)]
	for i := range l {
		l[i] = v
	}
}

// An answer is new memory: it outlasts what was handed in, and what is written over other answers.
func TestAnswersAreNew(t *testing.T) {
	k := kinds(api.Text, api.Int)
	l := []api.Value{text("ab"), null}
	p, _ := row.Bytes(k, l)
	other, _ := row.Bytes(k, l)
	fill(other, 9)
	fill(l, number(9))
	if string(p) != "\x02\x02ab" {
		t.Errorf("Bytes' answer changed: % x", p)
	}
	got, _ := row.Read(k, p)
	again, _ := row.Read(k, p)
	fill(again, number(9))
	fill(p, 9)
	fill(k, 9)
	if !slices.Equal(got, []api.Value{text("ab"), null}) {
		t.Errorf("Read's answer changed: %+v", got)
	}
}

// P1, P2: every call ends, and answers the same however often it is asked, of wrong arguments too.
func TestAgain(t *testing.T) {
	type answer struct {
		p, read      string
		e, fits, bad api.Errno
	}
	lists := append(wrongKinds(), kinds(api.Int), kinds(api.Text), kinds(api.Bool, api.Text), as(api.MaxColumns, api.Bool))
	values := []api.Value{null, number(1), text("a"), text("\xff"), truth(true), {Kind: 9}}
	first := map[[2]int]answer{}
	for range 2 {
		for i, k := range lists {
			for n, v := range values {
				l := slices.Repeat([]api.Value{v}, len(k))
				var got answer
				p, e := row.Bytes(k, l)
				back, bad := row.Read(k, append(p, byte(n)))
				for _, v := range back {
					got.read += cell.Literal(v) + ","
				}
				got.p, got.e, got.bad, got.fits = string(p), e, bad, row.Fits(k, l)
				if was, ok := first[[2]int{i, n}]; ok && was != got {
					t.Fatalf("%v, %+v: %+v, then %+v", k, v, was, got)
				}
				first[[2]int{i, n}] = got
			}
		}
	}
}
