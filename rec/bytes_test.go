package rec

import (
	"bytes"
	"math"
	"strings"
	"testing"

	"moiety/api"
	"moiety/pack"
)

const (
	m61   = int64(1) << 61
	one   = "\xbf\xf0\x00\x00\x00\x00\x00\x00" // the place of 1
	two   = "\xc0\x00\x00\x00\x00\x00\x00\x00"
	below = "\x7f\xff\xff\xff\xff\xff\xff\xff" // of the nought below nought
	nan   = "\xff\xf8\x00\x00\x00\x00\x00\x01"
)

// asBytes are records that may be, and their bytes.
var asBytes = []struct {
	r api.Record
	b string
}{
	{api.Record{Kind: Text}, "\x01\x00"},
	{api.Record{Kind: Text, Text: "ab"}, "\x01\x02ab"},
	{api.Record{Kind: Text, Text: strings.Repeat("x", 64)}, "\x01\x40" + strings.Repeat("x", 64)},
	{api.Record{Kind: Sum}, "\x02\x00"},
	{api.Record{Kind: Sum, Num: -2}, "\x02\x03"},
	{api.Record{Kind: Sum, Num: math.MinInt64}, "\x02\xff\xff\xff\xff\xff\xff\xff\xff\xff\x01"},
	{api.Record{Kind: Count, Num: 3}, "\x03\x06"},
	{api.Record{Kind: Count, Num: 150}, "\x03\xac\x02"},
	{api.Record{Kind: Count, Num: math.MaxInt64}, "\x03\xfe\xff\xff\xff\xff\xff\xff\xff\xff\x01"},
	{api.Record{Kind: Purse}, "\x04\x00\x00\x00"},
	{api.Record{Kind: Purse, Low: -1, High: 10, Num: 5}, "\x04\x01\x14\x0a"},
	{api.Record{Kind: Purse, Low: -m61, High: m61, Num: 0}, "\x04\xff\xff\xff\xff\xff\xff\xff\xff\x3f\x80\x80\x80\x80\x80\x80\x80\x80\x40\x00"},
	{api.Record{Kind: Peak, Real: 1}, "\x05" + one},
	{api.Record{Kind: Dip, Real: math.Copysign(0, -1)}, "\x06" + below},
	{api.Record{Kind: Level, Real: oneNaN}, "\x07" + nan},
	{api.Record{Kind: Level}, "\x07\x80\x00\x00\x00\x00\x00\x00\x00"},
	{api.Record{Kind: Set, Cap: 1}, "\x08\x01\x00"},
	{api.Record{Kind: Set, Cap: 2, List: named("a")}, "\x08\x02\x01\x01a"},
	{api.Record{Kind: Set, Cap: 32, List: named("", "b", "bc")}, "\x08\x20\x03\x00\x01b\x02bc"},
	{api.Record{Kind: Top, Cap: 32}, "\x09\x20\x00"},
	{api.Record{Kind: Top, Cap: 3, List: []api.Item{{Score: 2, Name: "b"}, {Score: 1, Name: ""}, {Score: 1, Name: "a"}}}, "\x09\x03\x03" + two + "\x01b" + one + "\x00" + one + "\x01a"},
	{api.Record{Kind: Top, Cap: 1, List: []api.Item{{Score: oneNaN, Name: "0123456789abcdef"}}}, "\x09\x01\x01" + nan + "\x100123456789abcdef"},
}

// thrown: what a call throws; nil: nothing.
func thrown(call func()) (out any) {
	defer func() { out = recover() }()
	call()
	return nil
}

func isZero(r api.Record) bool {
	return Same(r, api.Record{}) && r.List == nil
}

// P3.3

func TestBytes(t *testing.T) {
	for _, c := range asBytes {
		if b := Bytes(c.r); string(b) != c.b {
			t.Errorf("%+v: %x, not %x", c.r, b, c.b)
		}
	}
}

func TestBytesOfWhatMayNotBe(t *testing.T) {
	for _, r := range []api.Record{
		{},
		{Kind: -1},
		{Kind: Kinds},
		{Kind: math.MaxInt},
		{Kind: Text, Num: 1},
		{Kind: Text, Text: long(65)},
		{Kind: Purse, Low: 1},
		{Kind: Peak, Real: otherNaNs[1]},
		{Kind: Set},
		{Kind: Set, Cap: 33},
		{Kind: Set, Cap: -1},
		{Kind: Set, Cap: 1, List: named("a", "b")},
		{Kind: Set, Cap: 3, List: named("b", "a")},
		{Kind: Top, Cap: 1, List: named(long(17))},
	} {
		if b := Bytes(r); len(b) != 0 {
			t.Errorf("%+v: %x", r, b)
		}
		// Put promises nothing of it, but that it doesn't panic.
		if x := thrown(func() { Put(&pack.Writer{}, r) }); x != nil {
			t.Errorf("Put of %+v throws %v", r, x)
		}
	}
}

func TestPutIsBehindWhatWasWritten(t *testing.T) {
	var w pack.Writer
	w.S("k")
	want := "\x01k"
	for _, c := range asBytes {
		Put(&w, c.r)
		want += c.b
		if string(w.Bytes()) != want {
			t.Fatalf("behind %+v: %x, not %x", c.r, w.Bytes(), want)
		}
	}
}

func TestBytesAreNewMemory(t *testing.T) {
	r := api.Record{Kind: Set, Cap: 2, List: named("a", "b")}
	Bytes(r)[3] = 'z'
	if string(Bytes(r)) != "\x08\x02\x02\x01a\x01b" || r.List[0].Name != "a" {
		t.Error("changed")
	}
}

// P3.4

func TestReadBack(t *testing.T) {
	for _, c := range asBytes {
		r, f := Read([]byte(c.b))
		if f != (pack.Fault{}) || !Same(r, c.r) {
			t.Errorf("%x: %+v, %v", c.b, r, f)
		}
	}
}

func TestReadDoesNotChangeOrKeepItsBytes(t *testing.T) {
	b := []byte("\x08\x02\x01\x01a")
	r, _ := Read(b)
	if string(b) != "\x08\x02\x01\x01a" {
		t.Error("changed")
	}
	clear(b)
	if r.List[0].Name != "a" {
		t.Error("kept")
	}
}

func TestEndsEarlyOrGoesOn(t *testing.T) {
	for _, c := range asBytes {
		for n := range len(c.b) {
			r, f := Read([]byte(c.b[:n]))
			if f.Code != api.ErrShort || f.At > n || !isZero(r) {
				t.Errorf("%x cut at %d: %+v, %v", c.b, n, r, f)
			}
		}
		for _, more := range []string{"\x00", "\xff\xff"} {
			r, f := Read([]byte(c.b + more))
			if f != (pack.Fault{Code: api.ErrLong, At: len(c.b)}) || !isZero(r) {
				t.Errorf("%x and %x: %+v, %v", c.b, more, r, f)
			}
		}
	}
}

func TestFaults(t *testing.T) {
	nine := strings.Repeat("\xff", 9)
	names := "" // 33 names
	for i := range 33 {
		names += "\x01" + string([]byte{byte(100 + i)})
	}
	for _, c := range []struct {
		b    string
		code api.Errno
		at   int
	}{
		// kinds
		{"", api.ErrShort, 0},
		{"\x00", api.ErrKind, 1},
		{"\x00\x00\x00", api.ErrKind, 1},
		{"\x0a", api.ErrRange, 1},
		{"\x0a\x00", api.ErrRange, 1},
		{"\x7f", api.ErrRange, 1},
		{"\x80", api.ErrShort, 1},
		{"\x80\x00", api.ErrForm, 2},
		{"\x83\x00\x06", api.ErrForm, 2},
		{"\x81\x02", api.ErrRange, 2},
		{nine + "\x01", api.ErrRange, 10},
		{nine + "\x02", api.ErrRange, 10},
		// texts
		{"\x01", api.ErrShort, 1},
		{"\x01\x40" + long(63), api.ErrShort, 2},
		{"\x01\x41" + long(65), api.ErrLong, 2},
		{"\x01\x41", api.ErrLong, 2},
		{"\x01\x80\x00", api.ErrForm, 3},
		// numbers
		{"\x02", api.ErrShort, 1},
		{"\x02\x80\x00", api.ErrForm, 3},
		{"\x03" + nine + "\x02", api.ErrRange, 11},
		{"\x03\x86", api.ErrShort, 2},
		{"\x03\x06\x00", api.ErrLong, 2},
		// purses
		{"\x04\x00", api.ErrShort, 2},
		{"\x04\x00\x00", api.ErrShort, 3},
		{"\x04\x00\x00\x02", api.ErrRange, 4},
		{"\x04\x02\x00\x00", api.ErrRange, 4},
		{"\x04\x02\x00", api.ErrShort, 3},
		{"\x04\x00\x00\x02\x00", api.ErrRange, 4},
		{"\x04\x00\x82\x80\x80\x80\x80\x80\x80\x80\x40\x00", api.ErrRange, 12},
		{"\x04\x81\x80\x80\x80\x80\x80\x80\x80\x40\x00\x00", api.ErrRange, 12},
		// floating numbers
		{"\x05" + nan[:7], api.ErrShort, 8},
		{"\x05\xff\xf8\x00\x00\x00\x00\x00\x00", api.ErrForm, 9},
		{"\x06\x00\x00\x00\x00\x00\x00\x00\x00", api.ErrForm, 9},
		{"\x07\xff\xff\xff\xff\xff\xff\xff\xff\x00", api.ErrForm, 9},
		// sets
		{"\x08", api.ErrShort, 1},
		{"\x08\x21\x00", api.ErrRange, 2},
		{"\x08\x00\x00", api.ErrRange, 3},
		{"\x08\x00\x01\x01a", api.ErrRange, 5},
		{"\x08\x00", api.ErrShort, 2},
		{"\x08\x02", api.ErrShort, 2},
		{"\x08\x02\x21", api.ErrRange, 3},
		{"\x08\x20\x21" + names, api.ErrRange, 3},
		{"\x08\x1f\x20" + names[:64], api.ErrFull, 67},
		{"\x08\x01\x02\x01a\x01b", api.ErrFull, 7},
		{"\x08\x01\x02\x01b\x01a", api.ErrFull, 7},
		{"\x08\x02\x02\x01b\x01a", api.ErrForm, 7},
		{"\x08\x02\x02\x01a\x01a", api.ErrForm, 7},
		{"\x08\x02\x02\x01b\x01a\x00", api.ErrForm, 7},
		{"\x08\x02\x02\x01b\x01", api.ErrShort, 6},
		{"\x08\x02\x01\x11" + long(17), api.ErrLong, 4},
		{"\x08\x02\x01\x10" + long(15), api.ErrShort, 4},
		{"\x08\x02\x02\x01b\x11" + long(17), api.ErrLong, 6},
		// tops
		{"\x09\x21\x00", api.ErrRange, 2},
		{"\x09\x00\x00", api.ErrRange, 3},
		{"\x09\x01\x21", api.ErrRange, 3},
		{"\x09\x02\x01\x01a", api.ErrShort, 5},
		{"\x09\x02\x01" + one, api.ErrShort, 11},
		{"\x09\x02\x01\xff\xff\xff\xff\xff\xff\xff\xff\x01a", api.ErrForm, 11},
		{"\x09\x02\x01" + one + "\x11" + long(17), api.ErrLong, 12},
		{"\x09\x02\x02" + one + "\x01a" + two + "\x01a", api.ErrForm, 23},
		{"\x09\x02\x02" + one + "\x01b" + one + "\x01a", api.ErrForm, 23},
		{"\x09\x01\x02" + two + "\x01a" + one + "\x01a", api.ErrFull, 23},
	} {
		r, f := Read([]byte(c.b))
		if f != (pack.Fault{Code: c.code, At: c.at}) || !isZero(r) {
			t.Errorf("%x: %+v, %v, not %v at %d", c.b, r, f, c.code, c.at)
		}
	}
}

func TestMostThatIsRead(t *testing.T) {
	var items []api.Item
	for i := range 32 {
		items = append(items, api.Item{Score: float64(-i), Name: long(16)})
	}
	for _, r := range []api.Record{
		{Kind: Text, Text: long(64)},
		{Kind: Set, Cap: 32, List: letters(32)},
		{Kind: Top, Cap: 32, List: items},
		{Kind: Purse, Low: -m61, High: m61, Num: m61},
	} {
		got, f := Read(Bytes(r))
		if f != (pack.Fault{}) || !Same(got, r) {
			t.Errorf("%+v: %+v, %v", r, got, f)
		}
	}
}

func TestTakeReadsOn(t *testing.T) {
	b := "\x07"
	for _, c := range asBytes {
		b += c.b
	}
	r := pack.New([]byte(b + "\x02"))
	if r.U() != 7 {
		t.Fatal("what is ahead")
	}
	for _, c := range asBytes {
		if got := Take(r); !Same(got, c.r) {
			t.Fatalf("%+v, not %+v", got, c.r)
		}
	}
	if r.Left() != 1 {
		t.Error("left", r.Left())
	}
}

func TestTakeThrows(t *testing.T) {
	for _, c := range []struct {
		b string
		f pack.Fault
	}{
		{"\x00", pack.Fault{Code: api.ErrKind, At: 2}},
		{"\x0a", pack.Fault{Code: api.ErrRange, At: 2}},
		{"\x08\x02\x02\x01b\x01a", pack.Fault{Code: api.ErrForm, At: 8}},
		{"\x08\x02\x02\x01b\x01a\x00\x00", pack.Fault{Code: api.ErrForm, At: 8}},
		{"\x03", pack.Fault{Code: api.ErrShort, At: 2}},
	} {
		r := pack.New([]byte("\x05" + c.b))
		r.U()
		if x := thrown(func() { Take(r) }); x != any(c.f) {
			t.Errorf("%x: %v, not %v", c.b, x, c.f)
		}
	}
}

// FuzzRead: what is read may be, and is just these bytes; else there is a Fault, and no record.
func FuzzRead(f *testing.F) {
	for _, c := range asBytes {
		f.Add([]byte(c.b))
	}
	f.Fuzz(func(t *testing.T, b []byte) {
		r, fault := Read(b)
		if fault == (pack.Fault{}) {
			if Check(r) != api.OK || !bytes.Equal(Bytes(r), b) {
				t.Errorf("%x: %+v", b, r)
			}
			return
		}
		if !isZero(r) || fault.Code == api.OK || fault.At < 0 || fault.At > len(b) {
			t.Errorf("%x: %+v, %v", b, r, fault)
		}
	})
}
