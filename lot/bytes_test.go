package lot

import (
	"bytes"
	"math"
	"slices"
	"strings"
	"testing"

	"moiety/act"
	"moiety/api"
	"moiety/deal"
	"moiety/pack"
)

const (
	byte40 = "\x80\x80\x80\x80\x80\x20" // 2^40
	looks  = "\x01\x04\x00\x01a"        // a deal that looks at a
)

// asBytes are lots that may be, and their bytes.
func asBytes() []struct {
	l api.Lot
	b string
} {
	one := of(look("a"))
	two := of(api.Act{Kind: act.Plus, Key: "a", N: 3}, api.Act{Kind: act.Drop, Key: "bc", Must: true})
	return []struct {
		l api.Lot
		b string
	}{
		{api.Lot{Number: 1}, "\x01\x00"},
		{api.Lot{Number: 2}, "\x02\x00"},
		{api.Lot{Number: 127}, "\x7f\x00"},
		{api.Lot{Number: 128}, "\x80\x01\x00"},
		{api.Lot{Number: m40 - 1}, "\xff\xff\xff\xff\xff\x1f\x00"},
		{api.Lot{Number: m40}, byte40 + "\x00"},
		{api.Lot{Number: 7, Deals: []api.Deal{of(api.Act{Kind: act.Drop, Key: "a"})}}, "\x07\x01\x01\x02\x00\x01a"},
		{api.Lot{Number: 300, Deals: []api.Deal{one}}, "\xac\x02\x01" + looks},
		{api.Lot{Number: 3, Deals: []api.Deal{one, two}}, "\x03\x02" + looks + "\x02\x08\x00\x01a\x06\x02\x01\x02bc"},
		{api.Lot{Number: 3, Deals: []api.Deal{two, one}}, "\x03\x02" + "\x02\x08\x00\x01a\x06\x02\x01\x02bc" + looks},
		{api.Lot{Number: 3, Deals: []api.Deal{of(create("k"))}}, "\x03\x01\x01\x01\x00\x01k\x08\x03\x02\x01p\x01q"},
		{api.Lot{Number: m40, Deals: slices.Repeat([]api.Deal{one}, 31)}, byte40 + "\x1f" + strings.Repeat(looks, 31)},
		{api.Lot{Number: 1, Deals: slices.Repeat([]api.Deal{one}, 32)}, "\x01\x20" + strings.Repeat(looks, 32)},
	}
}

// raw: a lot as bytes, also if it may not be.
func raw(l api.Lot) string {
	var w pack.Writer
	w.U(uint64(l.Number))
	w.U(uint64(len(l.Deals)))
	for _, d := range l.Deals {
		deal.Write(&w, d)
	}
	return string(w.Bytes())
}

// P11.2

func TestBytes(t *testing.T) {
	for _, c := range asBytes() {
		if b := Bytes(c.l); string(b) != c.b {
			t.Errorf("%+v: %x, not %x", c.l, b, c.b)
		}
	}
}

func TestBytesOfWhatMayNotBe(t *testing.T) {
	lots := []api.Lot{
		{}, {Number: -1}, {Number: math.MinInt}, {Number: m40 + 1}, {Number: 0, Deals: some(1)},
		{Number: 1, Deals: some(33)}, {Number: 1, Deals: some(100)},
		{Number: 1, Deals: fill(2047)}, {Number: 128, Deals: fill(2046)}, {Number: 1, Deals: fill(5000)},
	}
	for _, w := range wrongDeals() {
		lots = append(lots, api.Lot{Number: 1, Deals: []api.Deal{w.d}}, api.Lot{Number: 1, Deals: append(some(3), w.d)})
	}
	for _, l := range lots {
		if e, _ := Check(l); e == api.OK {
			t.Errorf("%+v may be", l)
		}
		if b := Bytes(l); len(b) != 0 {
			t.Errorf("%+v: %x", l, b)
		}
	}
}

func TestBytesAreNewMemory(t *testing.T) {
	l := api.Lot{Number: 3, Deals: []api.Deal{of(create("k"))}}
	clear(Bytes(l))
	if string(Bytes(l)) != "\x03\x01\x01\x01\x00\x01k\x08\x03\x02\x01p\x01q" || !Same(l, api.Lot{Number: 3, Deals: []api.Deal{of(create("k"))}}) {
		t.Error("changed")
	}
}

func TestReadBack(t *testing.T) {
	for _, c := range asBytes() {
		l, f := Read([]byte(c.b))
		if f != (pack.Fault{}) || !Same(l, c.l) {
			t.Errorf("%x: %+v, %v", c.b, l, f)
		}
	}
}

func TestTheGreatestIsReadBack(t *testing.T) {
	for _, number := range []int{1, m40} {
		ahead := len(Bytes(api.Lot{Number: number}))
		for n := 2040; n <= 2048; n++ {
			want := api.Lot{Number: number, Deals: fill(n - ahead)}
			b := Bytes(want)
			if len(b) != n {
				t.Fatalf("%d bytes, not %d", len(b), n)
			}
			if l, f := Read(b); f != (pack.Fault{}) || !Same(l, want) {
				t.Errorf("%d: %v", n, f)
			}
		}
	}
}

func TestReadOfTooManyBytes(t *testing.T) {
	for _, number := range []int{1, 128, m40} {
		ahead := len(Bytes(api.Lot{Number: number}))
		for _, n := range []int{2049, 2050, 3000, 9000} {
			b := raw(api.Lot{Number: number, Deals: fill(n - ahead)})
			want := pack.Fault{Code: api.ErrLong, At: n}
			for _, more := range []string{"", "\x00", looks} {
				if l, f := Read([]byte(b + more)); f != want || l.Number != 0 || l.Deals != nil {
					t.Errorf("%d and %x: %v, not %v", n, more, f, want)
				}
			}
			// It is read up to its end ahead of being told too long.
			if _, f := Read([]byte(b[:n-1])); f.Code != api.ErrShort {
				t.Errorf("%d, cut off: %v", n, f)
			}
		}
	}
}

func TestReadDoesNotChangeOrKeepItsBytes(t *testing.T) {
	b := []byte("\x03\x01\x01\x01\x00\x01k\x08\x03\x02\x01p\x01q")
	l, _ := Read(b)
	other, _ := Read(b)
	if string(b) != "\x03\x01\x01\x01\x00\x01k\x08\x03\x02\x01p\x01q" {
		t.Error("changed")
	}
	clear(b)
	spoil(other.Deals)
	if !Same(l, api.Lot{Number: 3, Deals: []api.Deal{of(create("k"))}}) {
		t.Error("kept", l)
	}
}

func TestEndsEarlyOrGoesOn(t *testing.T) {
	for _, c := range asBytes() {
		for n := range len(c.b) {
			l, f := Read([]byte(c.b[:n]))
			if f.Code != api.ErrShort || f.At > n || l.Number != 0 || l.Deals != nil {
				t.Errorf("%x cut at %d: %+v, %v", c.b, n, l, f)
			}
		}
		for _, more := range []string{"\x00", "\x01", looks, c.b} {
			l, f := Read([]byte(c.b + more))
			if f != (pack.Fault{Code: api.ErrLong, At: len(c.b)}) || l.Number != 0 || l.Deals != nil {
				t.Errorf("%x and %x: %+v, %v", c.b, more, l, f)
			}
		}
	}
}

func TestFaults(t *testing.T) {
	nine := strings.Repeat("\xff", 9)
	many := strings.Repeat(looks, 33)
	for _, c := range []struct {
		b    string
		code api.Errno
		at   int
	}{
		// Number
		{"", api.ErrShort, 0},
		{"\x00", api.ErrRange, 1},
		{"\x00\x00", api.ErrRange, 1},
		{"\x00\x21", api.ErrRange, 1},
		{"\x80", api.ErrShort, 1},
		{"\x80\x00\x00", api.ErrForm, 2},
		{"\x81\x00\x00", api.ErrForm, 2},
		{"\x81\x80\x80\x80\x80\x20\x00", api.ErrRange, 6},
		{"\x81\x80\x80\x80\x80\x20", api.ErrRange, 6},
		{"\x80\x80\x80\x80\x80\x40\x00", api.ErrRange, 6},
		{nine + "\x01", api.ErrRange, 10},
		{nine + "\x02", api.ErrRange, 10},
		// how many deals there are
		{"\x01", api.ErrShort, 1},
		{byte40, api.ErrShort, 6},
		{"\x01\x80", api.ErrShort, 2},
		{"\x01\x80\x00", api.ErrForm, 3},
		{"\x01\x21", api.ErrRange, 2},
		{"\x01\x21" + many, api.ErrRange, 2},
		{byte40 + "\x21" + many, api.ErrRange, 7},
		{"\x01\x7f", api.ErrRange, 2},
		{"\x01\x80\x01", api.ErrRange, 3},
		{"\x01\xa0\x01", api.ErrRange, 3},
		{"\x01" + nine + "\x01", api.ErrRange, 11},
		// deals
		{"\x01\x01", api.ErrShort, 2},
		{"\x01\x01\x00", api.ErrRange, 3},
		{"\x01\x01\x0d", api.ErrRange, 3},
		{"\x01\x01\x01\x00", api.ErrKind, 4},
		{"\x01\x01\x01\x16", api.ErrRange, 4},
		{"\x01\x01\x01\x04\x02", api.ErrForm, 5},
		{"\x01\x01\x01\x04\x00\x00", api.ErrRange, 6},
		{"\x01\x01\x01\x04\x00\x19" + long(25), api.ErrLong, 6},
		{"\x01\x01\x01\x04\x00\x02a", api.ErrShort, 6},
		{"\x01\x02" + looks, api.ErrShort, 7},
		{"\x01\x02" + looks + "\x00", api.ErrRange, 8},
		{"\x01\x02\x00" + looks, api.ErrRange, 3},
		{"\x01\x02" + looks + "\x01\x0a\x00\x01a\x01\x05", api.ErrRange, 13},
		{"\x01\x20" + many[:155], api.ErrShort, 157},
		{"\x01\x20" + many[:155] + "\x01\x00", api.ErrKind, 159},
		// what is left
		{"\x01\x00" + looks, api.ErrLong, 2},
		{"\x01\x01" + looks + looks, api.ErrLong, 7},
		{"\x01\x20" + many, api.ErrLong, 162},
	} {
		l, f := Read([]byte(c.b))
		if f != (pack.Fault{Code: c.code, At: c.at}) || l.Number != 0 || l.Deals != nil {
			t.Errorf("%x: %+v, %v, not %v at %d", c.b, l, f, c.code, c.at)
		}
	}
}

// FuzzRead: what is read may be, and is just these bytes; else there is a Fault, and no lot.
func FuzzRead(f *testing.F) {
	for _, c := range asBytes() {
		f.Add([]byte(c.b))
	}
	f.Add([]byte(raw(api.Lot{Number: 1, Deals: fill(2046)})))
	f.Add([]byte(raw(api.Lot{Number: 1, Deals: fill(2047)})))
	f.Fuzz(func(t *testing.T, b []byte) {
		l, fault := Read(b)
		if fault == (pack.Fault{}) {
			if e, _ := Check(l); e != api.OK || !bytes.Equal(Bytes(l), b) {
				t.Errorf("%x: %+v", b, l)
			}
			return
		}
		if l.Number != 0 || l.Deals != nil || fault.Code == api.OK || fault.At < 0 || fault.At > len(b) {
			t.Errorf("%x: %+v, %v", b, l, fault)
		}
	})
}
