package act

import (
	"bytes"
	"math"
	"strings"
	"testing"

	"moiety/api"
	"moiety/pack"
	"moiety/rec"
)

const (
	one   = "\xbf\xf0\x00\x00\x00\x00\x00\x00" // the place of 1
	below = "\x7f\xff\xff\xff\xff\xff\xff\xff" // of the nought below nought
	nan   = "\xff\xf8\x00\x00\x00\x00\x00\x01"
)

// asBytes are acts that may be, and their bytes.
var asBytes = []struct {
	a api.Act
	b string
}{
	{api.Act{Kind: New, Key: "a", Make: api.Record{Kind: rec.Count, Num: 3}}, "\x01\x00\x01a\x03\x06"},
	{api.Act{Kind: New, Key: "a", Must: true, Make: api.Record{Kind: rec.Set, Cap: 2, List: []api.Item{{Name: "b"}}}}, "\x01\x01\x01a\x08\x02\x01\x01b"},
	{api.Act{Kind: Drop, Key: "ab"}, "\x02\x00\x02ab"},
	{api.Act{Kind: Is, Key: "a", Must: true}, "\x03\x01\x01a"},
	{api.Act{Kind: Look, Key: "a"}, "\x04\x00\x01a"},
	{api.Act{Kind: Put, Key: "a", S: "xyz"}, "\x05\x00\x01a\x03xyz"},
	{api.Act{Kind: Put, Key: "a", S: strings.Repeat("x", 64)}, "\x05\x00\x01a\x40" + strings.Repeat("x", 64)},
	{api.Act{Kind: Swap, Key: "a"}, "\x06\x00\x01a\x00"},
	{api.Act{Kind: Add, Key: "a", N: math.MinInt64}, "\x07\x00\x01a\xff\xff\xff\xff\xff\xff\xff\xff\xff\x01"},
	{api.Act{Kind: Plus, Key: "a", N: 3}, "\x08\x00\x01a\x06"},
	{api.Act{Kind: Plus, Key: "a", N: 3, Must: true}, "\x08\x01\x01a\x06"},
	{api.Act{Kind: Reach, Key: "a", N: -1}, "\x09\x00\x01a\x01"},
	{api.Act{Kind: In, Key: "a"}, "\x0a\x00\x01a\x00"},
	{api.Act{Kind: Out, Key: "a", N: 1 << 61}, "\x0b\x00\x01a\x80\x80\x80\x80\x80\x80\x80\x80\x40"},
	{api.Act{Kind: Enough, Key: "a", N: math.MaxInt64}, "\x0c\x00\x01a\xfe\xff\xff\xff\xff\xff\xff\xff\xff\x01"},
	{api.Act{Kind: Raise, Key: "a", X: 1}, "\x0d\x00\x01a" + one},
	{api.Act{Kind: Lower, Key: "a", X: math.Copysign(0, -1)}, "\x0e\x00\x01a" + below},
	{api.Act{Kind: Shift, Key: "a", X: oneNaN}, "\x0f\x00\x01a" + nan},
	{api.Act{Kind: Scale, Key: "a", X: 1}, "\x10\x00\x01a" + one},
	{api.Act{Kind: Fix, Key: strings.Repeat("k", 24), X: 1, Must: true}, "\x11\x01\x18" + strings.Repeat("k", 24) + one},
	{api.Act{Kind: Join, Key: "a", S: strings.Repeat("n", 16)}, "\x12\x00\x01a\x10" + strings.Repeat("n", 16)},
	{api.Act{Kind: Leave, Key: "a"}, "\x13\x00\x01a\x00"},
	{api.Act{Kind: Has, Key: "\x00", S: "\xff"}, "\x14\x00\x01\x00\x01\xff"},
	{api.Act{Kind: Offer, Key: "a", X: 1, S: "b"}, "\x15\x00\x01a" + one + "\x01b"},
}

// thrown: what a call throws; nil: nothing.
func thrown(call func()) (out any) {
	defer func() { out = recover() }()
	call()
	return nil
}

func isZero(a api.Act) bool {
	return Same(a, api.Act{}) && a.Make.List == nil
}

// P4.3

func TestBytes(t *testing.T) {
	seen := make([]bool, Kinds)
	for _, c := range asBytes {
		seen[c.a.Kind] = true
		if b := Bytes(c.a); string(b) != c.b {
			t.Errorf("%+v: %x, not %x", c.a, b, c.b)
		}
	}
	for _, c := range told {
		if !seen[c.kind] {
			t.Errorf("no bytes of a %s", c.name)
		}
	}
}

func TestBytesOfWhatMayNotBe(t *testing.T) {
	for _, a := range []api.Act{
		{},
		{Kind: Drop},
		{Kind: -1, Key: "a"},
		{Kind: Kinds, Key: "a"},
		{Kind: math.MaxInt, Key: "a"},
		{Kind: Drop, Key: long(25)},
		{Kind: Drop, Key: "a", N: 1},
		{Kind: New, Key: "a"},
		{Kind: New, Key: "a", Make: api.Record{Kind: rec.Set}},
		{Kind: Put, Key: "a", S: long(65)},
		{Kind: Join, Key: "a", S: long(17)},
		{Kind: In, Key: "a", N: -1},
		{Kind: Fix, Key: "a", X: otherNaNs[0]},
	} {
		if b := Bytes(a); len(b) != 0 {
			t.Errorf("%+v: %x", a, b)
		}
		// Write promises nothing of it, but that it doesn't panic.
		if x := thrown(func() { Write(&pack.Writer{}, a) }); x != nil {
			t.Errorf("Write of %+v throws %v", a, x)
		}
	}
}

func TestWriteIsBehindWhatWasWritten(t *testing.T) {
	var w pack.Writer
	w.U(300)
	want := "\xac\x02"
	for _, c := range asBytes {
		Write(&w, c.a)
		want += c.b
		if string(w.Bytes()) != want {
			t.Fatalf("behind %+v: %x, not %x", c.a, w.Bytes(), want)
		}
	}
}

func TestBytesAreNewMemory(t *testing.T) {
	a := api.Act{Kind: Put, Key: "k", S: "s"}
	clear(Bytes(a))
	if string(Bytes(a)) != "\x05\x00\x01k\x01s" || a.S != "s" {
		t.Error("changed")
	}
}

// P4.4

func TestReadBack(t *testing.T) {
	for _, c := range asBytes {
		a, f := Read([]byte(c.b))
		if f != (pack.Fault{}) || !Same(a, c.a) {
			t.Errorf("%x: %+v, %v", c.b, a, f)
		}
	}
}

func TestReadDoesNotChangeOrKeepItsBytes(t *testing.T) {
	const was = "\x01\x00\x01k\x08\x02\x01\x01b"
	b := []byte(was)
	a, _ := Read(b)
	if string(b) != was {
		t.Error("changed")
	}
	clear(b)
	if a.Key != "k" || a.Make.List[0].Name != "b" {
		t.Error("kept")
	}
}

func TestEndsEarlyOrGoesOn(t *testing.T) {
	for _, c := range asBytes {
		for n := range len(c.b) {
			a, f := Read([]byte(c.b[:n]))
			if f.Code != api.ErrShort || f.At > n || !isZero(a) {
				t.Errorf("%x cut at %d: %+v, %v", c.b, n, a, f)
			}
		}
		for _, more := range []string{"\x00", "\xff\xff"} {
			a, f := Read([]byte(c.b + more))
			if f != (pack.Fault{Code: api.ErrLong, At: len(c.b)}) || !isZero(a) {
				t.Errorf("%x and %x: %+v, %v", c.b, more, a, f)
			}
		}
	}
}

func TestFaults(t *testing.T) {
	nine := strings.Repeat("\xff", 9)
	for _, c := range []struct {
		b    string
		code api.Errno
		at   int
	}{
		// kinds
		{"", api.ErrShort, 0},
		{"\x00", api.ErrKind, 1},
		{"\x00\x02", api.ErrKind, 1},
		{"\x16", api.ErrRange, 1},
		{"\x16\x00\x01a", api.ErrRange, 1},
		{"\x80", api.ErrShort, 1},
		{"\x82\x00\x00\x01a", api.ErrForm, 2},
		{"\x82\x01\x00\x01a", api.ErrRange, 2},
		{nine + "\x01", api.ErrRange, 10},
		// Must
		{"\x02", api.ErrShort, 1},
		{"\x02\x02\x01a", api.ErrForm, 2},
		{"\x02\xff", api.ErrForm, 2},
		// keys
		{"\x02\x00", api.ErrShort, 2},
		{"\x02\x00\x00", api.ErrRange, 3},
		{"\x02\x00\x00\x00", api.ErrRange, 3},
		{"\x02\x00\x18" + long(23), api.ErrShort, 3},
		{"\x02\x00\x19" + long(25), api.ErrLong, 3},
		{"\x02\x00\x19", api.ErrLong, 3},
		{"\x02\x00\x81\x00a", api.ErrForm, 4},
		// What is wrong with an empty key is told behind the last part.
		{"\x08\x00\x00", api.ErrShort, 3},
		{"\x08\x00\x00\x06", api.ErrRange, 4},
		{"\x05\x00\x00\x41", api.ErrLong, 4},
		// N
		{"\x08\x00\x01a", api.ErrShort, 4},
		{"\x08\x00\x01a\x80\x00", api.ErrForm, 6},
		{"\x08\x00\x01a" + nine + "\x02", api.ErrRange, 14},
		{"\x0a\x00\x01a\x01", api.ErrRange, 5},
		{"\x0b\x00\x01a\x01\x00", api.ErrRange, 5},
		{"\x0b\x00\x01a\x82\x80\x80\x80\x80\x80\x80\x80\x40", api.ErrRange, 13},
		// X
		{"\x0d\x00\x01a" + one[:7], api.ErrShort, 11},
		{"\x0d\x00\x01a\xff\xf8\x00\x00\x00\x00\x00\x00", api.ErrForm, 12},
		{"\x11\x00\x01a\x00\x00\x00\x00\x00\x00\x00\x00", api.ErrForm, 12},
		// S
		{"\x05\x00\x01a\x41" + long(65), api.ErrLong, 5},
		{"\x06\x00\x01a\x41" + long(65), api.ErrLong, 5},
		{"\x05\x00\x01a\x40" + long(63), api.ErrShort, 5},
		{"\x12\x00\x01a\x11" + long(17), api.ErrLong, 5},
		{"\x13\x00\x01a\x11" + long(17), api.ErrLong, 5},
		{"\x14\x00\x01a\x11" + long(17), api.ErrLong, 5},
		{"\x15\x00\x01a" + one + "\x11" + long(17), api.ErrLong, 13},
		{"\x15\x00\x01a\x01b", api.ErrShort, 6},
		// Make
		{"\x01\x00\x01a", api.ErrShort, 4},
		{"\x01\x00\x01a\x00", api.ErrKind, 5},
		{"\x01\x00\x01a\x0a", api.ErrRange, 5},
		{"\x01\x00\x01a\x01\x41" + long(65), api.ErrLong, 6},
		{"\x01\x00\x01a\x08\x02\x02\x01b\x01a", api.ErrForm, 11},
		{"\x01\x00\x01a\x08\x01\x02\x01a\x01b", api.ErrFull, 11},
		{"\x01\x00\x01a\x08\x00\x00", api.ErrRange, 7},
		{"\x01\x00\x00\x08\x02\x02\x01b\x01a", api.ErrForm, 10},
		{"\x01\x00\x00\x03\x06", api.ErrRange, 5},
	} {
		a, f := Read([]byte(c.b))
		if f != (pack.Fault{Code: c.code, At: c.at}) || !isZero(a) {
			t.Errorf("%x: %+v, %v, not %v at %d", c.b, a, f, c.code, c.at)
		}
	}
}

func TestTakeReadsOn(t *testing.T) {
	b := "\x07"
	for _, c := range asBytes {
		b += c.b
	}
	r := pack.New([]byte(b + "\x02"))
	if r.U() != 7 {
		t.Fatal("what is ahead")
	}
	for _, c := range asBytes {
		if got := Take(r); !Same(got, c.a) {
			t.Fatalf("%+v, not %+v", got, c.a)
		}
	}
	if r.Left() != 1 {
		t.Error("left", r.Left())
	}
}

func TestTakeThrows(t *testing.T) {
	for _, c := range []struct {
		b string
		f pack.Fault
	}{
		{"\x00", pack.Fault{Code: api.ErrKind, At: 2}},
		{"\x16", pack.Fault{Code: api.ErrRange, At: 2}},
		{"\x02\x00\x00", pack.Fault{Code: api.ErrRange, At: 4}},
		{"\x02\x00\x00\x09", pack.Fault{Code: api.ErrRange, At: 4}},
		{"\x01\x00\x01a\x00", pack.Fault{Code: api.ErrKind, At: 6}},
		{"\x02\x00", pack.Fault{Code: api.ErrShort, At: 3}},
	} {
		r := pack.New([]byte("\x05" + c.b))
		r.U()
		if x := thrown(func() { Take(r) }); x != any(c.f) {
			t.Errorf("%x: %v, not %v", c.b, x, c.f)
		}
	}
}

// FuzzRead: what is read may be, and is just these bytes; else there is a Fault, and no act.
func FuzzRead(f *testing.F) {
	for _, c := range asBytes {
		f.Add([]byte(c.b))
	}
	f.Fuzz(func(t *testing.T, b []byte) {
		a, fault := Read(b)
		if fault == (pack.Fault{}) {
			if Check(a) != api.OK || !bytes.Equal(Bytes(a), b) {
				t.Errorf("%x: %+v", b, a)
			}
			return
		}
		if !isZero(a) || fault.Code == api.OK || fault.At < 0 || fault.At > len(b) {
			t.Errorf("%x: %+v, %v", b, a, fault)
		}
	})
}
