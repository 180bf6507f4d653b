package seal_test

import (
	"bytes"
	"fmt"
	"math"
	"slices"
	"testing"

	"moiety/api"
	"moiety/disk"
	"moiety/seal"
)

// contents: bytes of a length, of several kinds: noughts, ones, all bits, all others.
func contents(n int) [][]byte {
	var rising []byte
	for i := range n {
		rising = append(rising, byte(200+i))
	}
	return [][]byte{make([]byte, n), bytes.Repeat([]byte{1}, n), bytes.Repeat([]byte{255}, n), rising}
}

// sealed: the sector of some bytes, as the document tells it.
func sealed(b []byte) api.Sector {
	var s api.Sector
	row := append([]byte{1, byte(len(b))}, b...)
	for i := range s {
		if i < len(row) {
			s[i] = row[i]
		}
	}
	s[63] = 1
	return s
}

// only: a sector that has one byte that isn't 0.
func only(at int, b byte) api.Sector {
	var s api.Sector
	s[at] = b
	return s
}

// whole: whether a sector is, told byte by byte.
func whole(s api.Sector) bool {
	if s[0] != 1 || s[63] != 1 || s[1] > 61 {
		return false
	}
	for at := 2 + int(s[1]); at < 63; at++ {
		if s[at] != 0 {
			return false
		}
	}
	return true
}

// opens: that a sector is whole, of just these bytes.
func opens(t *testing.T, name string, s api.Sector, want []byte) {
	t.Helper()
	if b, ok := seal.Open(s); !ok || !bytes.Equal(b, want) {
		t.Errorf("%s: %v, %v; not %v", name, b, ok, want)
	}
}

// shut: that a sector isn't whole.
func shut(t *testing.T, name string, s api.Sector) {
	t.Helper()
	if b, ok := seal.Open(s); ok || len(b) != 0 {
		t.Errorf("%s: %v is whole: %v", name, s, b)
	}
}

// P18.1

func TestTheDocumentsExample(t *testing.T) {
	s, e := seal.Seal([]byte("a"))
	if e != api.OK || s != (api.Sector{0: 1, 1: 1, 2: 97, 63: 1}) {
		t.Error(s, e)
	}
	opens(t, "a", s, []byte("a"))
}

func TestEachLength(t *testing.T) {
	if seal.Most != 61 {
		t.Error("the bound")
	}
	for n := range 62 {
		for _, b := range contents(n) {
			s, e := seal.Seal(b)
			if e != api.OK || s != sealed(b) {
				t.Errorf("%v: %v, %v", b, s, e)
			}
			opens(t, "sealed", s, b)
			if seal.Blank(s) {
				t.Error("blank", s)
			}
		}
	}
	for _, b := range [][]byte{nil, {}} {
		if s, e := seal.Seal(b); e != api.OK || s != (api.Sector{0: 1, 63: 1}) {
			t.Error("no bytes", s, e)
		}
	}
}

// TestTooManyBytes: also so many that a byte would tell it wrongly.
func TestTooManyBytes(t *testing.T) {
	for _, n := range []int{62, 63, 64, 65, 128, 255, 256, 257, 300, 317, 318, 65536, 1 << 20} {
		for _, b := range contents(n) {
			if s, e := seal.Seal(b); e != api.ErrLong || s != (api.Sector{}) {
				t.Errorf("%d bytes: %v, %v", n, s, e)
			}
		}
	}
}

func TestWhatIsNotWhole(t *testing.T) {
	for n := range 62 {
		for _, b := range contents(n) {
			for _, x := range []byte{0, 2, 3, 128, 129, 254, 255} {
				s := sealed(b)
				s[0] = x
				shut(t, "the first byte", s)
				s = sealed(b)
				s[63] = x
				shut(t, "the last byte", s)
				s[0] = x
				shut(t, "the first byte and the last one", s)
			}
			for x := 62; x < 256; x++ {
				s := sealed(b)
				s[1] = byte(x)
				shut(t, "the length", s)
			}
			for at := 2 + n; at < 63; at++ {
				for _, x := range []byte{1, 2, 128, 255} {
					s := sealed(b)
					s[at] = x
					shut(t, "a byte behind its bytes", s)
				}
			}
		}
	}
	shut(t, "blank", api.Sector{})
	var ones api.Sector
	for i := range ones {
		ones[i] = 1
	}
	shut(t, "ones", ones)
}

// TestEachByteChanged: each byte of whole sectors, into each other one.
func TestEachByteChanged(t *testing.T) {
	for n := range 62 {
		for at := range 64 {
			s := sealed(contents(n)[3])
			for range 255 {
				s[at]++
				b, ok := seal.Open(s)
				if ok != whole(s) {
					t.Fatalf("%v: whole: %v", s, ok)
				}
				if want := s[2 : 2+s[1]%62]; ok && !bytes.Equal(b, want) || !ok && len(b) != 0 {
					t.Fatalf("%v: %v, not %v", s, b, want)
				}
			}
		}
	}
}

func TestBlank(t *testing.T) {
	if !seal.Blank(api.Sector{}) {
		t.Error("blank")
	}
	for at := range 64 {
		for x := 1; x < 256; x++ {
			if seal.Blank(only(at, byte(x))) {
				t.Error("not blank", at, x)
			}
		}
	}
}

// P18.2

// filled: a disk upon which these sectors have something for good, and no other one has.
func filled(t *testing.T, sectors int, at ...int) *disk.Disk {
	t.Helper()
	d, e := disk.New(sectors)
	for _, i := range at {
		if e == api.OK {
			e = d.Write(i, mark(i))
		}
	}
	if e == api.OK {
		e = d.Sync()
	}
	if e != api.OK {
		t.Fatal(e)
	}
	return d
}

// mark: what a sector has that isn't blank; of some a single byte only.
func mark(i int) api.Sector {
	if i%2 == 0 {
		return sealed([]byte{byte(i)})
	}
	return only(i%64, 1)
}

// left: that just these sectors have what they had, all others being blank.
func left(t *testing.T, name string, d *disk.Disk, at ...int) {
	t.Helper()
	for i := range d.Len() {
		var want api.Sector
		if slices.Contains(at, i) {
			want = mark(i)
		}
		if s, e := d.Read(i); e != api.OK || s != want {
			t.Errorf("%s: sector %d is %v, %v; not %v", name, i, s, e, want)
		}
	}
}

// counts: how many writes are pending, and how many there were behind the first ones.
func counts(t *testing.T, name string, d *disk.Disk, first, pending, writes int) {
	t.Helper()
	if d.Pending() != pending || d.Writes() != first+writes {
		t.Errorf("%s: %d pending, %d writes; not %d, %d", name, d.Pending(), d.Writes()-first, pending, writes)
	}
}

// TestWipeOfNone: nothing is read, so that nothing is wrong with the disk, or with where it begins.
func TestWipeOfNone(t *testing.T) {
	d := filled(t, 3, 0, 1, 2)
	d.Write(1, api.Sector{5})
	down := d.Clone()
	down.Break(1)
	down.Write(1, api.Sector{6})
	for _, n := range []int{0, -1, -64, math.MinInt} {
		for _, from := range []int{0, 2, 3, -1, math.MinInt, math.MaxInt} {
			if e := seal.Wipe(d, from, n); e != api.OK {
				t.Errorf("Wipe(%d, %d): %v", from, n, e)
			}
			if e := seal.Wipe(down, from, n); e != api.OK {
				t.Errorf("Wipe(%d, %d) while it is down: %v", from, n, e)
			}
		}
	}
	counts(t, "none", d, 4, 1, 0)
	counts(t, "none while it is down", down, 5, 2, 0)
	d.Crash()
	left(t, "none", d, 0, 1, 2)
}

// TestWipeOfBlankOnes: none is written, and nothing is synced.
func TestWipeOfBlankOnes(t *testing.T) {
	d := filled(t, 9, 0, 8)
	if e := seal.Wipe(d, 1, 7); e != api.OK {
		t.Error(e)
	}
	counts(t, "blank", d, 2, 0, 0)
	// Blank is what is read: what was there for good, and isn't any more, a crash brings back.
	d.Write(0, api.Sector{})
	d.Write(8, api.Sector{8})
	if e := seal.Wipe(d, 0, 8); e != api.OK {
		t.Error(e)
	}
	counts(t, "blank, and pending", d, 4, 2, 0)
	d.Crash()
	left(t, "blank, and pending", d, 0, 8)
}

// TestWipeOfSome: of each row of sectors of a small disk, whichever of them aren't blank.
func TestWipeOfSome(t *testing.T) {
	const n = 5
	for some := range 1 << n {
		var at []int
		for i := range n {
			if some>>i&1 == 1 {
				at = append(at, i)
			}
		}
		for from := range n {
			for many := 1; from+many <= n; many++ {
				name := fmt.Sprint(at, " from ", from, ", ", many)
				d := filled(t, n, at...)
				stays := slices.DeleteFunc(slices.Clone(at), func(i int) bool { return i >= from && i < from+many })
				for range 2 {
					if e := seal.Wipe(d, from, many); e != api.OK {
						t.Errorf("%s: %v", name, e)
					}
					counts(t, name, d, len(at), 0, len(at)-len(stays))
					left(t, name, d, stays...)
				}
				d.Crash()
				left(t, name+", crashed", d, stays...)
			}
		}
	}
}

// TestWipeIsForGood: and with it all that was pending, as it is one Sync.
func TestWipeIsForGood(t *testing.T) {
	d := filled(t, 4, 1, 2)
	d.Write(3, mark(3))
	d.Write(1, api.Sector{7})
	if e := seal.Wipe(d, 1, 1); e != api.OK {
		t.Error(e)
	}
	counts(t, "pending", d, 4, 0, 1)
	d.Crash()
	left(t, "pending", d, 2, 3)
}

func TestWipeOfAllOfALargeDisk(t *testing.T) {
	var all []int
	for i := range 4096 {
		all = append(all, i)
	}
	d := filled(t, 4096, all...)
	if e := seal.Wipe(d, 0, 4096); e != api.OK {
		t.Error(e)
	}
	counts(t, "all", d, 4096, 0, 4096)
	d.Crash()
	left(t, "all", d)
}

// TestWipeOfSectorsThatThereAreNot: nothing of what is there for good is lost.
func TestWipeOfSectorsThatThereAreNot(t *testing.T) {
	for _, c := range []struct{ from, n int }{
		{-1, 1}, {-1, 4}, {-4, 4}, {math.MinInt, 1}, {math.MinInt, math.MaxInt},
		{4, 1}, {5, 1}, {4, math.MaxInt}, {4096, 1}, {math.MaxInt, 1}, {math.MaxInt, math.MaxInt},
		{0, 5}, {3, 2}, {1, 4}, {0, math.MaxInt}, {3, math.MaxInt},
	} {
		name := fmt.Sprint(c)
		d := filled(t, 4, 0, 1, 2, 3)
		if e := seal.Wipe(d, c.from, c.n); e != api.ErrRange {
			t.Errorf("%s: %v", name, e)
		}
		if c.from < 0 || c.from > 3 {
			counts(t, name, d, 4, 0, 0)
		}
		d.Crash()
		left(t, name, d, 0, 1, 2, 3)
		d = filled(t, 4)
		if e := seal.Wipe(d, c.from, c.n); e != api.ErrRange {
			t.Errorf("%s, blank: %v", name, e)
		}
		counts(t, name+", blank", d, 0, 0, 0)
	}
}

// TestWipeOfADiskThatGoesDown: at each write; those ahead of it, and that one, are pending.
func TestWipeOfADiskThatGoesDown(t *testing.T) {
	at := []int{1, 2, 4, 5, 6, 8}
	for n := 1; n <= len(at)+1; n++ {
		d := filled(t, 10, at...)
		d.Break(n)
		e := seal.Wipe(d, 0, 10)
		if n > len(at) {
			if e != api.OK || d.Down() {
				t.Errorf("behind the last write: %v", e)
			}
			counts(t, "behind the last write", d, len(at), 0, len(at))
			left(t, "behind the last write", d)
			continue
		}
		if e != api.ErrDown || !d.Down() {
			t.Errorf("write %d: %v", n, e)
		}
		counts(t, "down", d, len(at), n, n)
		c := d.Clone()
		d.Crash()
		left(t, "nothing is kept", d, at...)
		c.Crash(slices.Repeat([]int{64}, 10)...)
		left(t, "all is kept", c, at[n:]...)
		if e := seal.Wipe(c, 0, 10); e != api.OK {
			t.Error("once more", e)
		}
		left(t, "once more", c)
	}
}

// TestWipeWhileDown: whichever sectors it is of.
func TestWipeWhileDown(t *testing.T) {
	for _, at := range [][]int{nil, {0, 1, 2}} {
		d := filled(t, 3, at...)
		d.Break(1)
		d.Write(0, mark(0))
		for _, from := range []int{0, 2, 3, -1, math.MinInt, math.MaxInt} {
			for _, n := range []int{1, 3, math.MaxInt} {
				if e := seal.Wipe(d, from, n); e != api.ErrDown {
					t.Errorf("Wipe(%d, %d): %v", from, n, e)
				}
			}
		}
		counts(t, "down", d, len(at), 1, 1)
	}
}

// P18.3

// crashed: a sector upon which another one was written, of which so many bytes were kept.
func crashed(t *testing.T, was, written api.Sector, kept int) api.Sector {
	t.Helper()
	d, e := disk.New(1)
	if e == api.OK {
		e = d.Write(0, was)
	}
	if e == api.OK {
		e = d.Sync()
	}
	if e == api.OK {
		e = d.Write(0, written)
	}
	if e != api.OK {
		t.Fatal(e)
	}
	d.Crash(kept)
	s, e := d.Read(0)
	if e != api.OK {
		t.Fatal(e)
	}
	return s
}

func TestFrontsOfAWholeOneUponABlankOne(t *testing.T) {
	for n := range 62 {
		for _, b := range contents(n) {
			s, _ := seal.Seal(b)
			for kept := range 64 {
				shut(t, fmt.Sprint(n, " bytes, kept ", kept), crashed(t, api.Sector{}, s, kept))
			}
			opens(t, fmt.Sprint(n, " bytes, all kept"), crashed(t, api.Sector{}, s, 64), b)
		}
	}
}

func TestFrontsOfABlankOneUponAWholeOne(t *testing.T) {
	for n := range 62 {
		for _, b := range contents(n) {
			s, _ := seal.Seal(b)
			opens(t, fmt.Sprint(n, " bytes, nothing kept"), crashed(t, s, api.Sector{}, 0), b)
			for kept := 1; kept <= 64; kept++ {
				shut(t, fmt.Sprint(n, " bytes, kept ", kept), crashed(t, s, api.Sector{}, kept))
			}
		}
	}
}

// TestFrontsOfWhatIsWiped: of sectors that were whole those are whole of whose blank ones nothing was kept.
func TestFrontsOfWhatIsWiped(t *testing.T) {
	for kept := range 65 {
		d := filled(t, 3, 0, 2)
		d.Break(2)
		if e := seal.Wipe(d, 0, 3); e != api.ErrDown {
			t.Error(e)
		}
		d.Crash(kept, 64-kept)
		for at, n := range map[int]int{0: kept, 2: 64 - kept} {
			s, e := d.Read(at)
			if e != api.OK {
				t.Error(e)
			}
			if n == 0 {
				opens(t, "nothing kept", s, []byte{byte(at)})
			} else {
				shut(t, "something kept", s)
			}
		}
	}
}

// P2

func TestSealLeavesItsBytes(t *testing.T) {
	b := []byte("abcdef")
	s, _ := seal.Seal(b[:3])
	if string(b) != "abcdef" {
		t.Error("changed", b)
	}
	clear(b)
	opens(t, "kept", s, []byte("abc"))
	clear(s[:])
	again, _ := seal.Seal([]byte("abc"))
	opens(t, "another one", again, []byte("abc"))
}

func TestOpenAnswersNewMemory(t *testing.T) {
	s := sealed([]byte("abc"))
	one, _ := seal.Open(s)
	two, _ := seal.Open(s)
	clear(one[:cap(one)])
	if string(two) != "abc" {
		t.Error("two answers share memory", two)
	}
	opens(t, "the sector", s, []byte("abc"))
}
