package pack

import (
	"bytes"
	"errors"
	"math"
	"runtime"
	"strings"
	"testing"

	"moiety/api"
)

// thrown: what a call throws; nil: nothing.
func thrown(call func()) (out any) {
	defer func() { out = recover() }()
	call()
	return nil
}

// P2.2

func TestEachPartIsReadBack(t *testing.T) {
	for _, c := range cases() {
		l, f := Read([]byte(c.b), string(c.p.Kind), len(c.p.S))
		if f != (Fault{}) || len(l) != 1 || !samePart(l[0], c.p) {
			t.Errorf("%x as %c: %+v, %v", c.b, c.p.Kind, l, f)
		}
	}
}

func TestPartsAreReadBack(t *testing.T) {
	var parts []Part
	kinds := ""
	for _, c := range cases() {
		parts = append(parts, c.p)
		kinds += string(c.p.Kind)
	}
	l, f := Read(Write(parts...), kinds, 128)
	if f != (Fault{}) || len(l) != len(parts) {
		t.Fatalf("%d parts, %v", len(l), f)
	}
	for i := range l {
		if !samePart(l[i], parts[i]) {
			t.Errorf("%d: %+v, not %+v", i, l[i], parts[i])
		}
	}
	if l, f := Read(nil, "", 0); len(l) != 0 || f != (Fault{}) {
		t.Error("nothing", l, f)
	}
}

func TestFaults(t *testing.T) {
	nine := strings.Repeat("\xff", 9)
	zero := strings.Repeat("\x80", 9)
	for _, c := range []struct {
		b, kinds string
		most     int
		code     api.Errno
		at       int
	}{
		// numbers
		{"", "u", 0, api.ErrShort, 0},
		{"\x80", "u", 0, api.ErrShort, 1},
		{nine, "u", 0, api.ErrShort, 9},
		{"\x80\x00", "u", 0, api.ErrForm, 2},
		{"\x80\x00\x05", "u", 0, api.ErrForm, 2},
		{"\xff\x80\x00", "u", 0, api.ErrForm, 3},
		{zero + "\x00", "u", 0, api.ErrForm, 10},
		{nine + "\x02", "u", 0, api.ErrRange, 10},
		{nine + "\x7f", "u", 0, api.ErrRange, 10},
		{nine + "\x80", "u", 0, api.ErrRange, 10},
		{nine + "\x81", "u", 0, api.ErrRange, 10},
		{zero + "\x80\x00", "u", 0, api.ErrRange, 10},
		{nine + "\xff\xff\xff", "u", 0, api.ErrRange, 10},
		{"\x00\x00", "u", 0, api.ErrLong, 1},
		// numbers that may be below nought
		{"", "i", 0, api.ErrShort, 0},
		{"\xff", "i", 0, api.ErrShort, 1},
		{"\x81\x00", "i", 0, api.ErrForm, 2},
		{nine + "\x02", "i", 0, api.ErrRange, 10},
		// floating numbers
		{"", "f", 0, api.ErrShort, 0},
		{"\x80", "f", 0, api.ErrShort, 1},
		{"\xff\xff\xff\xff\xff\xff\xff", "f", 0, api.ErrShort, 7},
		{"\xff\xff\xff\xff\xff\xff\xff\xff", "f", 0, api.ErrForm, 8},
		{"\x00\x00\x00\x00\x00\x00\x00\x00", "f", 0, api.ErrForm, 8},
		{"\x00\x0f\xff\xff\xff\xff\xff\xfe", "f", 0, api.ErrForm, 8},
		{"\xff\xf0\x00\x00\x00\x00\x00\x01", "f", 0, api.ErrForm, 8},
		{"\xff\xf8\x00\x00\x00\x00\x00\x00", "f", 0, api.ErrForm, 8},
		{"\xff\xf8\x00\x00\x00\x00\x00\x02\x00", "f", 0, api.ErrForm, 8},
		{"\x80\x00\x00\x00\x00\x00\x00\x00\x00", "f", 0, api.ErrLong, 8},
		// texts
		{"", "s", 9, api.ErrShort, 0},
		{"\x80", "s", 9, api.ErrShort, 1},
		{"\x80\x00", "s", 9, api.ErrForm, 2},
		{nine + "\x02", "s", 9, api.ErrRange, 10},
		{"\x03abc", "s", 2, api.ErrLong, 1},
		{"\x03", "s", 2, api.ErrLong, 1},
		{"\x80\x01", "s", 127, api.ErrLong, 2},
		{"\x01a", "s", 0, api.ErrLong, 1},
		{"\x01a", "s", -1, api.ErrLong, 1},
		{"\x01a", "s", math.MinInt, api.ErrLong, 1},
		{"\x03ab", "s", 3, api.ErrShort, 1},
		{"\x01", "s", 3, api.ErrShort, 1},
		{nine + "\x01a", "s", math.MaxInt, api.ErrLong, 10},
		{"\xff\xff\xff\xff\xff\xff\xff\xff\x7fa", "s", math.MaxInt, api.ErrShort, 9},
		{"\x01ab", "s", 2, api.ErrLong, 2},
		// yes or no
		{"", "b", 0, api.ErrShort, 0},
		{"\x02", "b", 0, api.ErrForm, 1},
		{"\xff\x00", "b", 0, api.ErrForm, 1},
		{"\x01\x01", "b", 0, api.ErrLong, 1},
		// signs
		{"\x01", "z", 0, api.ErrKind, 0},
		{"", "U", 0, api.ErrKind, 0},
		{"\x01", "\x00", 0, api.ErrKind, 0},
		{"\x01", "é", 0, api.ErrKind, 0},
		{"\x01\x01\x01", "ub?", 0, api.ErrKind, 2},
		{"\x80\x00", "u?", 0, api.ErrForm, 2},
		{"", "u?", 0, api.ErrShort, 0},
		// ends, and several parts
		{"\x00", "", 0, api.ErrLong, 0},
		{"\x05\x01a", "usb", 1, api.ErrShort, 3},
		{"\x05\x02a", "us", 2, api.ErrShort, 2},
		{"\x05\x80\x80", "uu", 2, api.ErrShort, 3},
		{"\x05\x02", "ub", 0, api.ErrForm, 2},
		{"\x05\x80\x00", "uu", 0, api.ErrForm, 3},
	} {
		l, f := Read([]byte(c.b), c.kinds, c.most)
		if f != (Fault{Code: c.code, At: c.at}) || len(l) != 0 {
			t.Errorf("%x as %q, %d: %v, %v, not %v at %d", c.b, c.kinds, c.most, l, f, c.code, c.at)
		}
	}
}

func TestMostIsStillRead(t *testing.T) {
	if l, f := Read([]byte("\x02ab"), "s", 2); f != (Fault{}) || len(l) != 1 || l[0].S != "ab" {
		t.Error(l, f)
	}
	for _, most := range []int{0, -1, math.MinInt} {
		if l, f := Read([]byte("\x00"), "s", most); f != (Fault{}) || len(l) != 1 || l[0].S != "" {
			t.Error(most, l, f)
		}
	}
}

// TestEndsEarly: of every piece of whole bytes that ends early, ErrShort is told.
func TestEndsEarly(t *testing.T) {
	b := Write(Part{Kind: 'u', U: math.MaxUint64}, Part{Kind: 'i', I: -300}, Part{Kind: 'f', F: -1}, Part{Kind: 's', S: "abc"}, Part{Kind: 'b', B: true})
	text := len(b) - 1 - len("abc")
	for n := range b {
		at := n
		if n > text && n < text+len("abc") {
			at = text
		}
		if l, f := Read(b[:n], "uifsb", 3); f != (Fault{Code: api.ErrShort, At: at}) || len(l) != 0 {
			t.Errorf("%d bytes: %v, %v", n, l, f)
		}
	}
	if _, f := Read(append(b, 0), "uifsb", 3); f != (Fault{Code: api.ErrLong, At: len(b)}) {
		t.Error("one byte more", f)
	}
}

// TestOneFormAlone: what can be read is just what would be written; so no two rows of bytes are the same parts.
func TestOneFormAlone(t *testing.T) {
	read := 0
	for n := range 1 << 16 {
		b := []byte{byte(n >> 8), byte(n)}
		for _, kinds := range []string{"u", "i", "s", "b", "uu", "ub", "bi", "is", "sb", "ss"} {
			l, f := Read(b, kinds, 2)
			if f != (Fault{}) {
				if f.Code == api.OK || f.At < 0 || f.At > len(b) || len(l) != 0 {
					t.Fatalf("%x as %s: %v", b, kinds, f)
				}
				continue
			}
			read++
			if !bytes.Equal(Write(l...), b) || len(l) != len(kinds) {
				t.Fatalf("%x as %s: %v", b, kinds, l)
			}
		}
	}
	if read == 0 {
		t.Error("nothing was read")
	}
}

func TestReadLeavesBytes(t *testing.T) {
	all := []byte("\x02ab\x07rest")
	b := all[:4]
	l, f := Read(b, "su", 2)
	if f != (Fault{}) || string(all) != "\x02ab\x07rest" {
		t.Error("changed", f)
	}
	copy(all, "zzzzzzzz")
	if l[0].S != "ab" || l[1].U != 7 {
		t.Error("shared", l)
	}
}

// P2.3

func TestReader(t *testing.T) {
	var w Writer
	w.U(300)
	w.I(-2)
	w.F(-0.5)
	w.S("ab")
	w.Flag(true)
	w.U(127)
	b := w.Bytes()
	r := New(b)
	if r.Left() != len(b) {
		t.Error("Left", r.Left())
	}
	if r.U() != 300 || r.I() != -2 || r.F() != -0.5 || r.S(2) != "ab" || !r.Flag() || r.Left() != 1 || r.Upto(127) != 127 || r.Left() != 0 {
		t.Error("not what was written")
	}
	r.End()
	if r.Left() != 0 {
		t.Error("Left behind all", r.Left())
	}
}

func TestReaderThrows(t *testing.T) {
	for i, c := range []struct {
		b    string
		call func(r *Reader)
		f    Fault
	}{
		{"\x80", func(r *Reader) { r.U() }, Fault{api.ErrShort, 1}},
		{"\x80\x00", func(r *Reader) { r.U() }, Fault{api.ErrForm, 2}},
		{"", func(r *Reader) { r.I() }, Fault{api.ErrShort, 0}},
		{"\x80\x00\x00", func(r *Reader) { r.F() }, Fault{api.ErrShort, 3}},
		{"\xff\xff\xff\xff\xff\xff\xff\xff\x00", func(r *Reader) { r.F() }, Fault{api.ErrForm, 8}},
		{"\x02ab", func(r *Reader) { r.S(1) }, Fault{api.ErrLong, 1}},
		{"\x02a", func(r *Reader) { r.S(2) }, Fault{api.ErrShort, 1}},
		{"\x02", func(r *Reader) { r.Flag() }, Fault{api.ErrForm, 1}},
		{"\x08", func(r *Reader) { r.Upto(7) }, Fault{api.ErrRange, 1}},
		{"\x80\x01", func(r *Reader) { r.Upto(127) }, Fault{api.ErrRange, 2}},
		{"\x01", func(r *Reader) { r.Upto(0) }, Fault{api.ErrRange, 1}},
		{"\x01", func(r *Reader) { r.Upto(-1) }, Fault{api.ErrRange, 1}},
		{"\x01", func(r *Reader) { r.Upto(math.MinInt) }, Fault{api.ErrRange, 1}},
		{"\x80\x00", func(r *Reader) { r.Upto(0) }, Fault{api.ErrForm, 2}},
		{"\xff\xff\xff\xff\xff\xff\xff\xff\xff\x01", func(r *Reader) { r.Upto(math.MaxInt) }, Fault{api.ErrRange, 10}},
		{"", func(r *Reader) { r.Upto(7) }, Fault{api.ErrShort, 0}},
		{"\x00", func(r *Reader) { r.End() }, Fault{api.ErrLong, 0}},
		{"\x05\x06\x07", func(r *Reader) { r.U(); r.End() }, Fault{api.ErrLong, 1}},
		{"\x05\x06\x07", func(r *Reader) { r.Fail(api.ErrKind) }, Fault{api.ErrKind, 0}},
		{"\x05\x06\x07", func(r *Reader) { r.U(); r.U(); r.Fail(api.ErrNot) }, Fault{api.ErrNot, 2}},
		{"\x05", func(r *Reader) { r.U(); r.Fail(api.Errno(-3)) }, Fault{api.Errno(-3), 1}},
		{"\x05", func(r *Reader) { r.U(); r.Fail(api.OK) }, Fault{api.OK, 1}},
	} {
		r := New([]byte(c.b))
		if x := thrown(func() { c.call(r) }); x != any(c.f) {
			t.Errorf("%d: %v, not %v", i, x, c.f)
		}
		if r.Left() != len(c.b)-c.f.At {
			t.Errorf("%d: %d left", i, r.Left())
		}
	}
}

func TestReaderAtTheEdges(t *testing.T) {
	if New([]byte("\x07")).Upto(7) != 7 || New([]byte("\x00")).Upto(0) != 0 || New([]byte("\x00")).Upto(-5) != 0 {
		t.Error("Upto just so many")
	}
	if New([]byte("\xff\xff\xff\xff\xff\xff\xff\xff\x7f")).Upto(math.MaxInt64) != math.MaxInt64 {
		t.Error("Upto the greatest")
	}
	if New([]byte("\x00")).S(-5) != "" || New([]byte("\x01a")).S(1) != "a" {
		t.Error("S just so many")
	}
	empty := New(nil)
	empty.End()
	if empty.Left() != 0 {
		t.Error("Left of nothing")
	}
}

func TestReadersAreApart(t *testing.T) {
	b := []byte("\x01\x02")
	r, s := New(b), New(b)
	r.U()
	if r.Left() != 1 || s.Left() != 2 || s.U() != 1 || r.U() != 2 {
		t.Error("one reads on for the other one")
	}
	if string(b) != "\x01\x02" {
		t.Error("changed")
	}
}

func TestReaderKeepsNothingHandedIn(t *testing.T) {
	b := []byte("\x02ab\x03")
	r := New(b)
	s := r.S(2)
	copy(b, "\x09\x09\x09\x09")
	if s != "ab" || r.U() != 3 {
		t.Error("kept", s)
	}
}

func TestCaught(t *testing.T) {
	for _, f := range []Fault{{}, {api.ErrForm, 2}, {api.ErrKind, 0}, {api.OK, 7}} {
		if Caught(f) != f {
			t.Error(f)
		}
	}
	if Caught(nil) != (Fault{}) {
		t.Error("nil")
	}
}

func TestWhatElseIsThrownOn(t *testing.T) {
	wrong := errors.New("wrong")
	for _, x := range []any{"text", 7, wrong, api.ErrForm, &Fault{api.ErrForm, 2}, struct {
		Code api.Errno
		At   int
	}{api.ErrForm, 2}} {
		if y := thrown(func() { Caught(x) }); y != x {
			t.Errorf("%v: %v", x, y)
		}
	}
	index := thrown(func() {
		defer func() { Caught(recover()) }()
		var none []int
		none[len(none)]++
	})
	if _, ok := index.(runtime.Error); !ok {
		t.Error("a fault of the program's own was held back", index)
	}
}

// P1

func FuzzRead(f *testing.F) {
	f.Add([]byte("\xac\x02\x03\x02ab\x01"), "uisb", 2)
	f.Add([]byte("\x80\x00"), "u", 0)
	f.Add([]byte("\xff\xf8\x00\x00\x00\x00\x00\x01"), "f", -1)
	f.Add([]byte(""), "z", math.MinInt)
	f.Fuzz(func(t *testing.T, b []byte, kinds string, most int) {
		was := bytes.Clone(b)
		l, fault := Read(b, kinds, most)
		if !bytes.Equal(b, was) {
			t.Fatal("changed")
		}
		if fault == (Fault{}) {
			if len(l) != len(kinds) || !bytes.Equal(Write(l...), b) {
				t.Fatalf("%x as %q: %v", b, kinds, l)
			}
			return
		}
		if fault.Code < api.ErrRange || fault.Code > api.ErrKind || fault.At < 0 || fault.At > len(b) || len(l) != 0 {
			t.Fatalf("%x as %q: %v, %v", b, kinds, l, fault)
		}
	})
}
