package pack

import (
	"bytes"
	"math"
	"slices"
	"strings"
	"testing"
)

// cases: parts, and the bytes that each is.
func cases() []struct {
	p Part
	b string
} {
	return []struct {
		p Part
		b string
	}{
		{Part{Kind: 'u', U: 0}, "\x00"},
		{Part{Kind: 'u', U: 1}, "\x01"},
		{Part{Kind: 'u', U: 127}, "\x7f"},
		{Part{Kind: 'u', U: 128}, "\x80\x01"},
		{Part{Kind: 'u', U: 300}, "\xac\x02"},
		{Part{Kind: 'u', U: 16383}, "\xff\x7f"},
		{Part{Kind: 'u', U: 16384}, "\x80\x80\x01"},
		{Part{Kind: 'u', U: 1<<63 - 1}, "\xff\xff\xff\xff\xff\xff\xff\xff\x7f"},
		{Part{Kind: 'u', U: 1 << 63}, "\x80\x80\x80\x80\x80\x80\x80\x80\x80\x01"},
		{Part{Kind: 'u', U: math.MaxUint64}, "\xff\xff\xff\xff\xff\xff\xff\xff\xff\x01"},
		{Part{Kind: 'i', I: 0}, "\x00"},
		{Part{Kind: 'i', I: -1}, "\x01"},
		{Part{Kind: 'i', I: 1}, "\x02"},
		{Part{Kind: 'i', I: -2}, "\x03"},
		{Part{Kind: 'i', I: 2}, "\x04"},
		{Part{Kind: 'i', I: 63}, "\x7e"},
		{Part{Kind: 'i', I: -64}, "\x7f"},
		{Part{Kind: 'i', I: 64}, "\x80\x01"},
		{Part{Kind: 'i', I: -65}, "\x81\x01"},
		{Part{Kind: 'i', I: math.MaxInt64}, "\xfe\xff\xff\xff\xff\xff\xff\xff\xff\x01"},
		{Part{Kind: 'i', I: math.MinInt64}, "\xff\xff\xff\xff\xff\xff\xff\xff\xff\x01"},
		{Part{Kind: 'f', F: 0}, "\x80\x00\x00\x00\x00\x00\x00\x00"},
		{Part{Kind: 'f', F: math.Copysign(0, -1)}, "\x7f\xff\xff\xff\xff\xff\xff\xff"},
		{Part{Kind: 'f', F: 1}, "\xbf\xf0\x00\x00\x00\x00\x00\x00"},
		{Part{Kind: 'f', F: math.SmallestNonzeroFloat64}, "\x80\x00\x00\x00\x00\x00\x00\x01"},
		{Part{Kind: 'f', F: math.Float64frombits(0x0123456789abcdef)}, "\x81\x23\x45\x67\x89\xab\xcd\xef"},
		{Part{Kind: 'f', F: -math.MaxFloat64}, "\x00\x10\x00\x00\x00\x00\x00\x00"},
		{Part{Kind: 'f', F: math.Inf(-1)}, "\x00\x0f\xff\xff\xff\xff\xff\xff"},
		{Part{Kind: 'f', F: math.Inf(1)}, "\xff\xf0\x00\x00\x00\x00\x00\x00"},
		{Part{Kind: 'f', F: math.Float64frombits(0x7FF8000000000001)}, "\xff\xf8\x00\x00\x00\x00\x00\x01"},
		{Part{Kind: 's', S: ""}, "\x00"},
		{Part{Kind: 's', S: "ab"}, "\x02ab"},
		{Part{Kind: 's', S: "\x00\xff\x80"}, "\x03\x00\xff\x80"},
		{Part{Kind: 's', S: strings.Repeat("x", 127)}, "\x7f" + strings.Repeat("x", 127)},
		{Part{Kind: 's', S: strings.Repeat("x", 128)}, "\x80\x01" + strings.Repeat("x", 128)},
		{Part{Kind: 'b', B: false}, "\x00"},
		{Part{Kind: 'b', B: true}, "\x01"},
	}
}

// samePart: floating numbers by their bits, as what is no number isn't ==.
func samePart(a, b Part) bool {
	x, y := a.F, b.F
	a.F, b.F = 0, 0
	return a == b && math.Float64bits(x) == math.Float64bits(y)
}

// P2.1

func TestEachPartAsBytes(t *testing.T) {
	for _, c := range cases() {
		if b := Write(c.p); string(b) != c.b {
			t.Errorf("%+v: %x, not %x", c.p, b, c.b)
		}
	}
}

func TestNoNumbersHaveOneForm(t *testing.T) {
	for _, b := range []uint64{0x7FF8000000000000, 0x7FF0000000000001, 0xFFF8000000000001, 0xFFFFFFFFFFFFFFFF} {
		if out := Write(Part{Kind: 'f', F: math.Float64frombits(b)}); string(out) != "\xff\xf8\x00\x00\x00\x00\x00\x01" {
			t.Errorf("%x: %x", b, out)
		}
	}
}

func TestPartsBehindEachOther(t *testing.T) {
	var parts []Part
	want := ""
	for _, c := range cases() {
		parts = append(parts, c.p)
		want += c.b
	}
	if b := Write(parts...); string(b) != want {
		t.Errorf("%x, not %x", b, want)
	}
	if b := Write(); len(b) != 0 {
		t.Errorf("no parts: %x", b)
	}
}

func TestPartsOfNoKind(t *testing.T) {
	for k := range 256 {
		known := strings.IndexByte("uifsb", byte(k)) >= 0
		b := Write(Part{Kind: byte(k), U: 1, I: 1, F: 1, S: "a", B: true})
		if known != (len(b) > 0) {
			t.Errorf("kind %d: %x", k, b)
		}
	}
	if b := Write(Part{Kind: 'b', B: true}, Part{Kind: 'z', U: 9}, Part{Kind: 'u', U: 7}); string(b) != "\x01\x07" {
		t.Errorf("one of no kind between: %x", b)
	}
}

func TestOnlyWhatCountsIsWritten(t *testing.T) {
	p := Part{Kind: 'u', U: 3, I: 4, F: 5, S: "six", B: true}
	if b := Write(p); string(b) != "\x03" {
		t.Errorf("%x", b)
	}
}

func TestWriter(t *testing.T) {
	var w Writer
	if w.Len() != 0 || len(w.Bytes()) != 0 {
		t.Error("the zero one has bytes")
	}
	for i, c := range []struct {
		put  func()
		more string
	}{
		{func() { w.U(300) }, "\xac\x02"},
		{func() { w.I(-2) }, "\x03"},
		{func() { w.F(1) }, "\xbf\xf0\x00\x00\x00\x00\x00\x00"},
		{func() { w.S("ab") }, "\x02ab"},
		{func() { w.Flag(true) }, "\x01"},
		{func() { w.Flag(false) }, "\x00"},
	} {
		was := string(w.Bytes())
		c.put()
		if string(w.Bytes()) != was+c.more || w.Len() != len(was)+len(c.more) {
			t.Errorf("%d: %x, %d", i, w.Bytes(), w.Len())
		}
	}
}

func TestBytesAreNewMemory(t *testing.T) {
	var w Writer
	w.S("abc")
	first, second := w.Bytes(), w.Bytes()
	w.S("de")
	_ = append(first, 9, 9, 9, 9)
	first[0] = 77
	if string(second) != "\x03abc" || string(w.Bytes()) != "\x03abc\x02de" {
		t.Errorf("%x, %x", second, w.Bytes())
	}
}

func TestWriteLeavesParts(t *testing.T) {
	parts := []Part{{Kind: 's', S: "a"}, {Kind: 'z', U: 5}, {Kind: 'f', F: 2}}
	was := slices.Clone(parts)
	one := Write(parts...)
	other := Write(parts...)
	one[0] = 200
	if !slices.Equal(parts, was) || bytes.Equal(one, other) {
		t.Error("shared")
	}
}
