package deal

import (
	"bytes"
	"math"
	"strings"
	"testing"

	"moiety/act"
	"moiety/api"
	"moiety/pack"
	"moiety/rec"
)

const one = "\xbf\xf0\x00\x00\x00\x00\x00\x00" // the place of 1

// greatest: a deal of twelve acts, each as long as may be.
func greatest() api.Deal {
	var items []api.Item
	for i := range 32 {
		items = append(items, api.Item{Score: float64(-i), Name: long(16)})
	}
	return times(12, api.Act{Kind: act.New, Key: long(24), Must: true, Make: api.Record{Kind: rec.Top, Cap: 32, List: items}})
}

// asBytes are deals that may be, and their bytes.
func asBytes() []struct {
	d api.Deal
	b string
} {
	plus := api.Act{Kind: act.Plus, Key: "a", N: 3}
	must := api.Act{Kind: act.Drop, Key: "bc", Must: true}
	offer := api.Act{Kind: act.Offer, Key: "a", X: 1, S: "n"}
	return []struct {
		d api.Deal
		b string
	}{
		{of(plus), "\x01\x08\x00\x01a\x06"},
		{of(must), "\x01\x02\x01\x02bc"},
		{of(plus, must), "\x02\x08\x00\x01a\x06\x02\x01\x02bc"},
		{of(must, plus), "\x02\x02\x01\x02bc\x08\x00\x01a\x06"},
		{of(offer, create("k"), look("\x00")), "\x03\x15\x00\x01a" + one + "\x01n" + "\x01\x00\x01k\x08\x03\x02\x01p\x01q" + "\x04\x00\x01\x00"},
		{times(11, plus), "\x0b" + strings.Repeat("\x08\x00\x01a\x06", 11)},
		{times(12, plus), "\x0c" + strings.Repeat("\x08\x00\x01a\x06", 12)},
		{of(api.Act{Kind: act.Add, Key: "a", N: math.MinInt64}), "\x01\x07\x00\x01a\xff\xff\xff\xff\xff\xff\xff\xff\xff\x01"},
	}
}

// thrown: what a call throws; nil: nothing.
func thrown(call func()) (out any) {
	defer func() { out = recover() }()
	call()
	return nil
}

// P8.4

func TestBytes(t *testing.T) {
	for _, c := range asBytes() {
		if b := Bytes(c.d); string(b) != c.b {
			t.Errorf("%+v: %x, not %x", c.d, b, c.b)
		}
	}
}

// TestBytesAreThoseOfActs: as layer 4 has them, for every kind.
func TestBytesAreThoseOfActs(t *testing.T) {
	for k := 1; k < act.Kinds; k++ {
		a := api.Act{Kind: k, Key: "key"}
		if k == act.New {
			a.Make = api.Record{Kind: rec.Purse, Low: -1, High: 1}
		}
		want := "\x02" + string(act.Bytes(a)) + string(act.Bytes(add("b")))
		d := of(a, add("b"))
		if got := Bytes(d); string(got) != want {
			t.Errorf("%s: %x, not %x", act.Name(k), got, want)
		}
		if got, f := Read([]byte(want)); f != (pack.Fault{}) || !Same(got, d) {
			t.Errorf("%s: %+v, %v", act.Name(k), got, f)
		}
	}
}

func TestBytesOfWhatMayNotBe(t *testing.T) {
	wrong := []api.Deal{{}, {Acts: []api.Act{}}, times(13, add("a")), times(14, add("a")), times(200, look("k"))}
	for _, w := range wrongActs() {
		wrong = append(wrong, of(w.a), of(add("a"), w.a), of(w.a, add("a")))
	}
	for _, d := range wrong {
		if b := Bytes(d); len(b) != 0 {
			t.Errorf("%+v: %x", d, b)
		}
		// Write promises nothing of it, but that it doesn't panic.
		if x := thrown(func() { Write(&pack.Writer{}, d) }); x != nil {
			t.Errorf("Write of %+v throws %v", d, x)
		}
	}
}

func TestWriteIsBehindWhatWasWritten(t *testing.T) {
	var w pack.Writer
	w.S("k")
	want := "\x01k"
	for _, c := range asBytes() {
		Write(&w, c.d)
		want += c.b
		if string(w.Bytes()) != want {
			t.Fatalf("behind %+v: %x, not %x", c.d, w.Bytes(), want)
		}
	}
}

func TestBytesAreNewMemory(t *testing.T) {
	d := of(create("k"))
	clear(Bytes(d))
	if string(Bytes(d)) != "\x01\x01\x00\x01k\x08\x03\x02\x01p\x01q" || !Same(d, of(create("k"))) {
		t.Error("changed")
	}
}

func TestReadBack(t *testing.T) {
	for _, c := range asBytes() {
		d, f := Read([]byte(c.b))
		if f != (pack.Fault{}) || !Same(d, c.d) {
			t.Errorf("%x: %+v, %v", c.b, d, f)
		}
	}
	d, f := Read(Bytes(greatest()))
	if f != (pack.Fault{}) || !Same(d, greatest()) {
		t.Errorf("the greatest: %+v, %v", d, f)
	}
}

func TestReadDoesNotChangeOrKeepItsBytes(t *testing.T) {
	b := []byte("\x01\x01\x00\x01k\x08\x03\x02\x01p\x01q")
	d, _ := Read(b)
	other, _ := Read(b)
	if string(b) != "\x01\x01\x00\x01k\x08\x03\x02\x01p\x01q" {
		t.Error("changed")
	}
	clear(b)
	spoilActs(other.Acts)
	if !Same(d, of(create("k"))) {
		t.Error("kept", d)
	}
}

func TestEndsEarlyOrGoesOn(t *testing.T) {
	for _, c := range asBytes() {
		for n := range len(c.b) {
			d, f := Read([]byte(c.b[:n]))
			if f.Code != api.ErrShort || f.At > n || d.Acts != nil {
				t.Errorf("%x cut at %d: %+v, %v", c.b, n, d, f)
			}
		}
		for _, more := range []string{"\x00", "\x01", c.b} {
			d, f := Read([]byte(c.b + more))
			if f != (pack.Fault{Code: api.ErrLong, At: len(c.b)}) || d.Acts != nil {
				t.Errorf("%x and %x: %+v, %v", c.b, more, d, f)
			}
		}
	}
}

func TestFaults(t *testing.T) {
	nine := strings.Repeat("\xff", 9)
	plus := "\x08\x00\x01a\x06"
	for _, c := range []struct {
		b    string
		code api.Errno
		at   int
	}{
		// how many there are
		{"", api.ErrShort, 0},
		{"\x00", api.ErrRange, 1},
		{"\x00" + plus, api.ErrRange, 1},
		{"\x0d", api.ErrRange, 1},
		{"\x0d" + strings.Repeat(plus, 13), api.ErrRange, 1},
		{"\x7f", api.ErrRange, 1},
		{"\x80", api.ErrShort, 1},
		{"\x80\x00", api.ErrForm, 2},
		{"\x81\x00" + plus, api.ErrForm, 2},
		{"\x8c\x01", api.ErrRange, 2},
		{nine + "\x01", api.ErrRange, 10},
		{nine + "\x02", api.ErrRange, 10},
		// acts
		{"\x01", api.ErrShort, 1},
		{"\x01\x00", api.ErrKind, 2},
		{"\x01\x16", api.ErrRange, 2},
		{"\x01\x08\x02", api.ErrForm, 3},
		{"\x01\x08\x00\x00\x06", api.ErrRange, 5},
		{"\x01\x08\x00\x19" + long(25), api.ErrLong, 4},
		{"\x01\x08\x00\x18" + long(23), api.ErrShort, 4},
		{"\x01\x0a\x00\x01a\x01", api.ErrRange, 6},
		{"\x01\x01\x00\x01k\x08\x03\x02\x01q\x01p", api.ErrForm, 12},
		{"\x01\x01\x00\x01k\x00", api.ErrKind, 6},
		{"\x02" + plus, api.ErrShort, 6},
		{"\x02" + plus + "\x00", api.ErrKind, 7},
		{"\x02" + plus + "\x0a\x00\x01a\x01\x00", api.ErrRange, 11},
		{"\x02\x00" + plus, api.ErrKind, 2},
		{"\x0c" + strings.Repeat(plus, 11), api.ErrShort, 56},
		{"\x0c" + strings.Repeat(plus, 11) + "\x16", api.ErrRange, 57},
		// what is left
		{"\x01" + plus + plus, api.ErrLong, 6},
		{"\x0c" + strings.Repeat(plus, 13), api.ErrLong, 61},
	} {
		d, f := Read([]byte(c.b))
		if f != (pack.Fault{Code: c.code, At: c.at}) || d.Acts != nil {
			t.Errorf("%x: %+v, %v, not %v at %d", c.b, d, f, c.code, c.at)
		}
	}
}

func TestTakeReadsOn(t *testing.T) {
	b := "\x07"
	for _, c := range asBytes() {
		b += c.b
	}
	r := pack.New([]byte(b + "\x02"))
	if r.U() != 7 {
		t.Fatal("what is ahead")
	}
	for _, c := range asBytes() {
		if got := Take(r); !Same(got, c.d) {
			t.Fatalf("%+v, not %+v", got, c.d)
		}
	}
	if r.Left() != 1 {
		t.Error("left", r.Left())
	}
}

func TestTakeThrows(t *testing.T) {
	for _, c := range []struct {
		b string
		f pack.Fault
	}{
		{"", pack.Fault{Code: api.ErrShort, At: 1}},
		{"\x00", pack.Fault{Code: api.ErrRange, At: 2}},
		{"\x0d", pack.Fault{Code: api.ErrRange, At: 2}},
		{"\x01\x00", pack.Fault{Code: api.ErrKind, At: 3}},
		{"\x02\x08\x00\x01a\x06\x0a\x00\x01a\x01\x00\x00", pack.Fault{Code: api.ErrRange, At: 12}},
		{"\x02\x08\x00\x01a\x06", pack.Fault{Code: api.ErrShort, At: 7}},
	} {
		r := pack.New([]byte("\x05" + c.b))
		r.U()
		if x := thrown(func() { Take(r) }); x != any(c.f) {
			t.Errorf("%x: %v, not %v", c.b, x, c.f)
		}
	}
}

// FuzzRead: what is read may be, and is just these bytes; else there is a Fault, and no deal.
func FuzzRead(f *testing.F) {
	for _, c := range asBytes() {
		f.Add([]byte(c.b))
	}
	f.Add(Bytes(greatest()))
	f.Fuzz(func(t *testing.T, b []byte) {
		d, fault := Read(b)
		if fault == (pack.Fault{}) {
			if e, _ := Check(d); e != api.OK || !bytes.Equal(Bytes(d), b) {
				t.Errorf("%x: %+v", b, d)
			}
			return
		}
		if d.Acts != nil || fault.Code == api.OK || fault.At < 0 || fault.At > len(b) {
			t.Errorf("%x: %+v, %v", b, d, fault)
		}
	})
}
