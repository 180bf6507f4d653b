package roll_test

import (
	"bytes"
	"fmt"
	"math"
	"slices"
	"testing"

	"moiety/api"
	"moiety/disk"
	"moiety/roll"
)

// part: a sector that is whole of a number and some bytes, as the document tells it.
func part(follow int, b []byte) api.Sector {
	s := api.Sector{0: 1, 1: byte(1 + len(b)), 2: byte(follow), 63: 1}
	for i, x := range b {
		s[3+i] = x
	}
	return s
}

// told: an entry's sectors, as the document tells them.
func told(b []byte) []api.Sector {
	var parts [][]byte
	for len(b) > 60 {
		parts, b = append(parts, b[:60]), b[60:]
	}
	parts = append(parts, b)
	var l []api.Sector
	for i, p := range parts {
		l = append(l, part(len(parts)-i-1, p))
	}
	return l
}

// row: the sectors of some entries, one behind the other.
func row(entries ...[]byte) []api.Sector {
	var l []api.Sector
	for _, b := range entries {
		l = append(l, told(b)...)
	}
	return l
}

// rising: so many bytes, all others as far as they can be.
func rising(n, from int) []byte {
	b := make([]byte, n)
	for i := range b {
		b[i] = byte(from + i)
	}
	return b
}

// contents: bytes of a length, of several kinds.
func contents(n int) [][]byte {
	return [][]byte{make([]byte, n), bytes.Repeat([]byte{1}, n), bytes.Repeat([]byte{255}, n), rising(n, 7)}
}

// sizes: the lengths of entries at the edges, and how many sectors they have.
func sizes() map[int]int {
	return map[int]int{0: 1, 1: 1, 2: 1, 59: 1, 60: 1, 61: 2, 119: 2, 120: 2, 121: 3, 180: 3, 181: 4, 3779: 63, 3780: 63, 3781: 64, 3839: 64, 3840: 64}
}

// laid: a disk of so many sectors, upon which these are for good, from one on.
func laid(t *testing.T, sectors, from int, l ...api.Sector) *disk.Disk {
	t.Helper()
	d, e := disk.New(sectors)
	for i, s := range l {
		if e == api.OK {
			e = d.Write(from+i, s)
		}
	}
	if e == api.OK {
		e = d.Sync()
	}
	if e != api.OK {
		t.Fatal(e)
	}
	return d
}

// all: what is read of a disk.
func all(t *testing.T, d *disk.Disk) []api.Sector {
	t.Helper()
	l := make([]api.Sector, d.Len())
	for i := range l {
		var e api.Errno
		if l[i], e = d.Read(i); e != api.OK {
			t.Fatal(e)
		}
	}
	return l
}

// stays: that something that is done changes nothing of a disk.
func stays(t *testing.T, name string, d *disk.Disk, done func()) {
	t.Helper()
	before, pending, writes := all(t, d), d.Pending(), d.Writes()
	done()
	if !slices.Equal(all(t, d), before) || d.Pending() != pending || d.Writes() != writes {
		t.Errorf("%s: the disk was changed", name)
	}
}

// fill: whole sectors that stand for what isn't of an area.
func fill(n int) []api.Sector { return slices.Repeat([]api.Sector{part(0, []byte("other"))}, n) }

// finds: that these are the entries of an area, and how many sectors they have.
func finds(t *testing.T, name string, d *disk.Disk, a roll.Area, want ...[]byte) {
	t.Helper()
	l, n, e := roll.Scan(d, a)
	if e != api.OK || !slices.EqualFunc(l, want, bytes.Equal) || n != len(row(want...)) {
		t.Errorf("%s: Scan: %v, %d, %v; not %v", name, l, n, e, want)
	}
}

// open: that an area can be opened, and has these entries.
func open(t *testing.T, name string, d *disk.Disk, a roll.Area, want ...[]byte) *roll.Roll {
	t.Helper()
	r, l, e := roll.Open(d, a)
	if e != api.OK || r == nil {
		t.Fatalf("%s: Open: %v", name, e)
	}
	if !slices.EqualFunc(l, want, bytes.Equal) {
		t.Fatalf("%s: Open: %v, not %v", name, l, want)
	}
	if left := a.Len - len(row(want...)); r.Left() != left {
		t.Fatalf("%s: %d left, not %d", name, r.Left(), left)
	}
	return r
}

// appends: that these can be appended.
func appends(t *testing.T, name string, r *roll.Roll, entries ...[]byte) {
	t.Helper()
	for _, b := range entries {
		left := r.Left()
		if e := r.Append(b); e != api.OK || r.Left() != left-len(told(b)) {
			t.Fatalf("%s: Append of %d bytes: %v, %d left of %d", name, len(b), e, r.Left(), left)
		}
	}
}

// syncs: that nothing is pending behind a Sync.
func syncs(t *testing.T, d *disk.Disk, r *roll.Roll) {
	t.Helper()
	if e := r.Sync(); e != api.OK || d.Pending() != 0 {
		t.Fatal("Sync", e, d.Pending())
	}
}

// fail: that a disk goes down now, by a write of what a sector has anyway.
func fail(t *testing.T, d *disk.Disk) {
	t.Helper()
	s, _ := d.Read(0)
	d.Break(1)
	if e := d.Write(0, s); e != api.ErrDown {
		t.Fatal(e)
	}
}

// P19.1

func TestTheDocumentsExample(t *testing.T) {
	d := laid(t, 2, 0)
	r := open(t, "blank", d, roll.Area{Len: 2})
	b := rising(61, 100)
	appends(t, "61 bytes", r, b)
	one, two := api.Sector{0: 1, 1: 61, 2: 1, 63: 1}, api.Sector{0: 1, 1: 2, 2: 0, 3: 160, 63: 1}
	copy(one[3:63], b[:60])
	if l := all(t, d); l[0] != one || l[1] != two {
		t.Error(l)
	}
}

func TestNeed(t *testing.T) {
	if roll.Chunk != 60 || roll.MaxEach != 3840 {
		t.Error("the bounds")
	}
	for n, want := range sizes() {
		if got := roll.Need(n); got != want {
			t.Errorf("Need(%d): %d, not %d", n, got, want)
		}
	}
	for n := range 3841 {
		if got, want := roll.Need(n), len(told(make([]byte, n))); got != want {
			t.Errorf("Need(%d): %d, not %d", n, got, want)
		}
	}
	// Of others nothing is promised, but that it ends.
	for _, n := range []int{-1, -60, -61, math.MinInt, 3841, math.MaxInt - 59, math.MaxInt} {
		roll.Need(n)
	}
}

// TestAnEntrysSectors: of each length, written just so, and found again.
func TestAnEntrysSectors(t *testing.T) {
	for n, need := range sizes() {
		for i, b := range contents(n) {
			name := fmt.Sprint(n, " bytes, ", i)
			d := laid(t, need+5, 0, fill(need+5)...)
			a := roll.Area{From: 2, Len: need + 1}
			if e := roll.Clear(d, a); e != api.OK {
				t.Fatal(e)
			}
			writes := d.Writes()
			r := open(t, name, d, a)
			appends(t, name, r, b)
			if r.Left() != 1 || d.Writes() != writes+need || d.Pending() != need {
				t.Errorf("%s: %d left, %d writes, %d pending", name, r.Left(), d.Writes()-writes, d.Pending())
			}
			want := slices.Concat(fill(2), told(b), make([]api.Sector, 1), fill(2))
			if !slices.Equal(all(t, d), want) {
				t.Errorf("%s: %v, not %v", name, all(t, d), want)
			}
			finds(t, name, d, a, b)
			open(t, name+", once more", d, a, b)
		}
	}
}

// P19.2

// wrongAreas are of no disk of 8 sectors.
func wrongAreas() []roll.Area {
	l := []roll.Area{{0, 9}, {1, 8}, {7, 2}, {8, 1}, {9, 1}, {8, 0}, {4096, 1}, {3, 6}}
	for _, n := range []int{-1, -8, math.MinInt, math.MinInt + 1} {
		for _, m := range []int{-1, 0, 1, 2, 8, 9, 16, math.MaxInt, math.MinInt} {
			l = append(l, roll.Area{From: n, Len: m})
		}
	}
	for _, n := range []int{0, 1, 7, 8, 9, math.MaxInt} {
		for _, m := range []int{0, -1, -8, math.MinInt, math.MaxInt, math.MaxInt - 1, math.MaxInt - 7, math.MaxInt - 8} {
			l = append(l, roll.Area{From: n, Len: m})
		}
	}
	for m := 1; m < 10; m++ {
		l = append(l, roll.Area{From: math.MaxInt, Len: m}, roll.Area{From: math.MaxInt - 8, Len: m})
	}
	return l
}

// rightAreas are all of a disk of 8 sectors.
func rightAreas() []roll.Area {
	var l []roll.Area
	for from := range 8 {
		for n := 1; from+n <= 8; n++ {
			l = append(l, roll.Area{From: from, Len: n})
		}
	}
	return l
}

func TestWrongAreas(t *testing.T) {
	for _, a := range wrongAreas() {
		name := fmt.Sprint(a)
		d := laid(t, 8, 0, fill(8)...)
		d.Write(3, api.Sector{5})
		stays(t, name, d, func() {
			if l, n, e := roll.Scan(d, a); e != api.ErrRange || l != nil || n != 0 {
				t.Errorf("%s: Scan: %v, %d, %v", name, l, n, e)
			}
			if e := roll.Clear(d, a); e != api.ErrRange {
				t.Errorf("%s: Clear: %v", name, e)
			}
			if r, l, e := roll.Open(d, a); e != api.ErrRange || r != nil || l != nil {
				t.Errorf("%s: Open: %v, %v, %v", name, r, l, e)
			}
		})
	}
}

func TestRightAreas(t *testing.T) {
	for _, a := range rightAreas() {
		name := fmt.Sprint(a)
		d := laid(t, 8, 0, fill(8)...)
		want := slices.Repeat([][]byte{[]byte("other")}, a.Len)
		stays(t, name, d, func() {
			finds(t, name, d, a, want...)
			open(t, name, d, a, want...)
		})
		if e := roll.Clear(d, a); e != api.OK {
			t.Errorf("%s: Clear: %v", name, e)
		}
		left := slices.Concat(fill(a.From), make([]api.Sector, a.Len), fill(8-a.From-a.Len))
		if !slices.Equal(all(t, d), left) {
			t.Errorf("%s: cleared, it is %v", name, all(t, d))
		}
		finds(t, name+", cleared", d, a)
		d.Crash()
		if !slices.Equal(all(t, d), left) {
			t.Errorf("%s: cleared, and crashed, it is %v", name, all(t, d))
		}
	}
}

func TestAreasOfTheLargestDisk(t *testing.T) {
	entry := rising(3840, 3)
	d := laid(t, 4096, 0, row(slices.Repeat([][]byte{entry}, 64)...)...)
	finds(t, "all of it", d, roll.Area{Len: 4096}, slices.Repeat([][]byte{entry}, 64)...)
	finds(t, "its end", d, roll.Area{From: 4032, Len: 64}, entry)
	finds(t, "one less", d, roll.Area{Len: 4095}, slices.Repeat([][]byte{entry}, 63)...)
	r := open(t, "its last sector, the end of an entry", d, roll.Area{From: 4095, Len: 1}, entry[3780:])
	if r.Left() != 0 {
		t.Error(r.Left())
	}
}

// TestDown: whatever area it is, and whatever entry.
func TestDown(t *testing.T) {
	d := laid(t, 8, 0)
	r := open(t, "blank", d, roll.Area{From: 1, Len: 2})
	appends(t, "one", r, []byte("a"))
	fail(t, d)
	pending, writes := d.Pending(), d.Writes()
	for _, a := range append(wrongAreas(), rightAreas()...) {
		if l, n, e := roll.Scan(d, a); e != api.ErrDown || l != nil || n != 0 {
			t.Errorf("%v: Scan: %v, %d, %v", a, l, n, e)
		}
		if e := roll.Clear(d, a); e != api.ErrDown {
			t.Errorf("%v: Clear: %v", a, e)
		}
		if r, l, e := roll.Open(d, a); e != api.ErrDown || r != nil || l != nil {
			t.Errorf("%v: Open: %v, %v, %v", a, r, l, e)
		}
	}
	for _, n := range []int{0, 1, 60, 61, 3840, 3841, 1 << 16} {
		if e := r.Append(make([]byte, n)); e != api.ErrDown || r.Left() != 1 {
			t.Errorf("Append of %d bytes: %v", n, e)
		}
	}
	if e := r.Sync(); e != api.ErrDown {
		t.Error("Sync", e)
	}
	if d.Pending() != pending || d.Writes() != writes {
		t.Error("something was written", d.Pending(), d.Writes())
	}
}

// areas are what may stand in an area, and which entries these are.
func areas() []struct {
	name    string
	sectors []api.Sector
	want    [][]byte
} {
	a, two, three := []byte("a"), rising(61, 9), rising(180, 9)
	torn := told(a)[0]
	torn[63] = 0
	none := api.Sector{0: 1, 63: 1}
	blank := api.Sector{}
	long := rising(3840, 1)
	over := slices.Concat([]api.Sector{part(64, make([]byte, 60))}, told(long))
	return []struct {
		name    string
		sectors []api.Sector
		want    [][]byte
	}{
		{"blank", make([]api.Sector, 5), nil},
		{"full of one", told(three), [][]byte{three}},
		{"full of some", row(two, a, nil, three, a), [][]byte{two, a, nil, three, a}},
		{"full of entries without bytes", row(nil, nil, nil), [][]byte{nil, nil, nil}},
		{"some, then blank ones", append(row(two, a), blank, blank), [][]byte{two, a}},
		{"a torn one first", append([]api.Sector{torn}, told(a)...), nil},
		{"ones that aren't whole", []api.Sector{{5}, {0: 1, 1: 62, 63: 1}, {63: 1}}, nil},
		{"whole of no bytes first", append([]api.Sector{none}, told(a)...), nil},
		{"whole of no bytes behind one", append(told(a), none), [][]byte{a}},
		{"whole of no bytes within one", []api.Sector{part(2, three[:60]), none, part(0, a)}, nil},
		{"whole of no bytes as the last part", []api.Sector{part(1, three[:60]), none}, nil},
		{"more follow than there is room for", told(three)[:2], nil},
		{"more follow than there is room for, behind one", append(told(a), told(three)[:2]...), [][]byte{a}},
		{"more follow than stand there", append(told(three)[:2], blank, blank), nil},
		{"more follow than stand there, then one", append(told(three)[:1], told(a)...), nil},
		{"a torn part", []api.Sector{told(two)[0], torn}, nil},
		{"255 follow", append([]api.Sector{part(255, make([]byte, 60))}, told(a)...), nil},
		{"64 follow, and stand there", over, nil},
		{"63 follow, and stand there", over[1:], [][]byte{long}},
		{"63 follow, but one lacks", over[1:64], nil},
		{"63 follow, but the first lacks", over[2:], [][]byte{long[60:]}},
		{"59 bytes ahead of the last part", []api.Sector{part(1, make([]byte, 59)), part(0, a)}, nil},
		{"no bytes ahead of the last part", []api.Sector{part(1, nil), part(0, a)}, nil},
		{"59 bytes in the middle", []api.Sector{part(2, three[:60]), part(1, three[:59]), part(0, a)}, nil},
		{"59 bytes, then 61 sectors' worth", []api.Sector{part(1, three[:59]), part(0, three[:60])}, nil},
		{"no bytes in the last part", []api.Sector{part(1, three[:60]), part(0, nil)}, nil},
		{"no bytes in the last of three", []api.Sector{part(2, three[:60]), part(1, three[:60]), part(0, nil)}, nil},
		{"numbers that skip", []api.Sector{part(2, three[:60]), part(0, a)}, nil},
		{"numbers that skip two", []api.Sector{part(3, three[:60]), part(1, three[:60]), part(0, a)}, nil},
		{"numbers that stay", []api.Sector{part(1, three[:60]), part(1, three[:60]), part(0, a)}, nil},
		{"numbers that rise", []api.Sector{part(1, three[:60]), part(2, three[:60]), part(1, three[:60]), part(0, a)}, nil},
		{"numbers that begin too high", []api.Sector{part(2, three[:60]), part(1, three[:60]), part(0, a)}, [][]byte{append(slices.Concat(three[:60], three[:60]), a...)}},
		{"a whole entry behind a blank sector", append([]api.Sector{blank}, told(a)...), nil},
		{"whole entries behind one and a blank sector", append(append(told(two), blank), row(a, two)...), [][]byte{two}},
		{"whole entries behind a torn one", append(append(told(two), torn), row(a, two)...), [][]byte{two}},
		{"the end of an entry first", told(three)[1:], [][]byte{three[60:]}},
		{"a sector of an entry lacks, then one", append([]api.Sector{told(three)[0], told(three)[2]}, told(a)...), nil},
	}
}

// TestScan: whatever stands ahead of the area, and goes on behind it.
func TestScan(t *testing.T) {
	for _, c := range areas() {
		n := len(c.sectors)
		for _, behind := range [][]api.Sector{make([]api.Sector, 3), told(rising(70, 8))[1:], told(rising(180, 9))[2:], row([]byte("z"), []byte("y"), nil)} {
			d := laid(t, 2+n+len(behind), 0, slices.Concat(fill(2), c.sectors, behind)...)
			a := roll.Area{From: 2, Len: n}
			stays(t, c.name, d, func() { finds(t, c.name, d, a, c.want...) })
		}
		d := laid(t, n, 0, c.sectors...)
		stays(t, c.name, d, func() { finds(t, c.name, d, roll.Area{Len: n}, c.want...) })
	}
}

// just: whether some sectors are just an entry's, told byte by byte.
func just(l []api.Sector) ([]byte, bool) {
	var b []byte
	for i, s := range l {
		n, follow := int(s[1])-1, len(l)-1-i
		if s[0] != 1 || s[63] != 1 || n < 0 || n > 60 || int(s[2]) != follow {
			return nil, false
		}
		if follow > 0 && n != 60 || follow == 0 && i > 0 && n == 0 {
			return nil, false
		}
		for _, x := range s[3+n : 63] {
			if x != 0 {
				return nil, false
			}
		}
		b = append(b, s[3:3+n]...)
	}
	return b, true
}

// stand: the entries that stand in a row of sectors, told by trying each length.
func stand(l []api.Sector) [][]byte {
	var entries [][]byte
next:
	for {
		for n := range min(len(l), 64) {
			if b, ok := just(l[:n+1]); ok {
				entries, l = append(entries, b), l[n+1:]
				continue next
			}
		}
		return entries
	}
}

// chances: a row of numbers that is the same in each run.
func chances(seed uint64) func(int) int {
	return func(n int) int {
		seed ^= seed << 13
		seed ^= seed >> 7
		seed ^= seed << 17
		return int(seed % uint64(n))
	}
}

// mixed: sectors of entries, of some of which something is wrong.
func mixed(next func(int) int) []api.Sector {
	lengths := []int{0, 1, 59, 60, 61, 120, 121, 200}
	var l []api.Sector
	for range next(6) {
		l = append(l, told(rising(lengths[next(len(lengths))], next(256)))...)
	}
	for range max(0, next(5)-2) {
		if len(l) == 0 {
			break
		}
		at := next(len(l))
		switch next(7) {
		case 0:
			l[at] = api.Sector{}
		case 1:
			l[at][63] = 0
		case 2:
			l[at][2] = byte(next(5))
		case 3:
			l[at] = part(next(4), rising(next(61), 3))
		case 4:
			l = slices.Delete(l, at, at+1)
		case 5:
			l[at] = api.Sector{0: 1, 63: 1}
		default:
			l = slices.Insert(l, at, l[next(len(l))])
		}
	}
	return append(l, make([]api.Sector, next(3))...)
}

func TestMixedAreas(t *testing.T) {
	next := chances(88172645463325252)
	found, lost := 0, 0
	for i := range 20000 {
		l := append(mixed(next), api.Sector{7})
		name := fmt.Sprint("mixed ", i)
		from, n := next(3), 1+next(len(l))
		d := laid(t, from+len(l), from, l...)
		want := stand(l[:n])
		finds(t, name, d, roll.Area{From: from, Len: n}, want...)
		if len(row(want...)) == n {
			found++
		} else {
			lost++
		}
		if t.Failed() {
			return
		}
	}
	if found < 1000 || lost < 1000 {
		t.Error("not mixed", found, lost)
	}
}

// P19.3

// written: how many sectors of a row aren't blank.
func written(l []api.Sector) int {
	return len(slices.DeleteFunc(slices.Clone(l), func(s api.Sector) bool { return s == api.Sector{} }))
}

// TestOpenWipes: what stands behind the entries, and nothing else; for good.
func TestOpenWipes(t *testing.T) {
	for _, c := range areas() {
		n, many := len(c.sectors), len(row(c.want...))
		d := laid(t, n+5, 0, slices.Concat(fill(2), c.sectors, fill(3))...)
		a := roll.Area{From: 2, Len: n}
		writes := d.Writes()
		r := open(t, c.name, d, a, c.want...)
		want := slices.Concat(fill(2), c.sectors[:many], make([]api.Sector, n-many), fill(3))
		for range 2 {
			if !slices.Equal(all(t, d), want) {
				t.Errorf("%s: %v, not %v", c.name, all(t, d), want)
			}
			if d.Writes() != writes+written(c.sectors[many:]) || d.Pending() != 0 {
				t.Errorf("%s: %d writes, %d pending", c.name, d.Writes()-writes, d.Pending())
			}
			d.Crash()
		}
		if r.Left() != n-many {
			t.Errorf("%s: %d left", c.name, r.Left())
		}
		stays(t, c.name+", once more", d, func() { open(t, c.name+", once more", d, a, c.want...) })
		more := slices.Repeat([][]byte{[]byte("more")}, n-many)
		appends(t, c.name, r, more...)
		finds(t, c.name, d, a, slices.Concat(c.want, more)...)
	}
}

// TestOpenGoesDown: at each write of its Wipe, whatever is kept; what it found is found again.
func TestOpenGoesDown(t *testing.T) {
	junk := slices.Concat([]api.Sector{{9}, {}}, row([]byte("b"), rising(61, 4)))
	one := rising(70, 6)
	a := roll.Area{From: 1, Len: 9}
	for n := 1; n <= 5; n++ {
		for _, kept := range []int{0, 1, 63, 64} {
			name := fmt.Sprint("write ", n, ", kept ", kept)
			d := laid(t, 10, 1, append(row(one, nil), junk...)...)
			d.Break(n)
			if n == 5 {
				open(t, name, d, a, one, nil)
				continue
			}
			if r, l, e := roll.Open(d, a); e != api.ErrDown || r != nil || l != nil {
				t.Errorf("%s: %v, %v, %v", name, r, l, e)
			}
			d.Crash(slices.Repeat([]int{kept}, n)...)
			finds(t, name, d, a, one, nil)
			open(t, name, d, a, one, nil)
			d.Crash()
			if !slices.Equal(all(t, d), slices.Concat(make([]api.Sector, 1), row(one, nil), make([]api.Sector, 6))) {
				t.Error(name, all(t, d))
			}
		}
	}
}

// TestClearGoesDown: at each write.
func TestClearGoesDown(t *testing.T) {
	for n := 1; n <= 4; n++ {
		d := laid(t, 5, 1, fill(3)...)
		d.Break(n)
		if e := roll.Clear(d, roll.Area{From: 1, Len: 4}); (e == api.OK) != (n == 4) || (e == api.ErrDown) != (n < 4) {
			t.Error(n, e)
		}
		d.Crash()
		want := append(make([]api.Sector, 1), fill(3)...)
		if n == 4 {
			want = make([]api.Sector, 4)
		}
		if !slices.Equal(all(t, d), append(want, api.Sector{})) {
			t.Error(n, all(t, d))
		}
	}
}

// TestAppendIsBehindTheOthers: those that Open found, and those that were appended, synced or not.
func TestAppendIsBehindTheOthers(t *testing.T) {
	d := laid(t, 16, 1, row(rising(61, 1), []byte("b"))...)
	a := roll.Area{From: 1, Len: 14}
	want := [][]byte{rising(61, 1), []byte("b")}
	r := open(t, "two", d, a, want...)
	for i, n := range []int{0, 121, 60, 1, 120} {
		b := rising(n, 50*i)
		appends(t, "more", r, b)
		want = append(want, b)
		finds(t, "more", d, a, want...)
		if i%2 == 1 {
			syncs(t, d, r)
		}
	}
	if !slices.Equal(all(t, d)[1:], append(row(want...), make([]api.Sector, 15-len(row(want...)))...)) {
		t.Error(all(t, d))
	}
	open(t, "those that aren't synced, too", d, a, want...)
}

// TestJustFits: an entry that fits just so, and one that needs one sector more.
func TestJustFits(t *testing.T) {
	for n, need := range sizes() {
		for _, left := range []int{need, need - 1} {
			name := fmt.Sprint(n, " bytes, ", left, " left")
			d := laid(t, left+3, 0, append(told([]byte("a")), make([]api.Sector, left)...)...)
			r := open(t, name, d, roll.Area{Len: left + 1}, []byte("a"))
			if left == need {
				appends(t, name, r, make([]byte, n))
				if r.Left() != 0 {
					t.Error(name, r.Left())
				}
				continue
			}
			stays(t, name, d, func() {
				if e := r.Append(make([]byte, n)); e != api.ErrFull || r.Left() != left {
					t.Errorf("%s: %v, %d left", name, e, r.Left())
				}
			})
			if left > 0 {
				appends(t, name+", one that fits", r, make([]byte, left*60))
				finds(t, name, d, roll.Area{Len: left + 1}, []byte("a"), make([]byte, left*60))
			}
		}
	}
}

// TestFull: an area that is full to its last sector takes nothing, not even no bytes.
func TestFull(t *testing.T) {
	d := laid(t, 3, 0, row(rising(61, 0), nil)...)
	r := open(t, "full", d, roll.Area{Len: 3}, rising(61, 0), nil)
	for _, n := range []int{0, 1, 60, 3840} {
		stays(t, "full", d, func() {
			if e := r.Append(make([]byte, n)); e != api.ErrFull || r.Left() != 0 {
				t.Errorf("%d bytes: %v, %d left", n, e, r.Left())
			}
		})
	}
}

// TestTooLong: also where there is no room for it.
func TestTooLong(t *testing.T) {
	for _, sectors := range []int{1, 64, 65, 4096} {
		d := laid(t, sectors, 0)
		r := open(t, "blank", d, roll.Area{Len: sectors})
		for _, n := range []int{3841, 3842, 3900, 3901, 4096, 15360, 15361, 1 << 18} {
			stays(t, "too long", d, func() {
				if e := r.Append(make([]byte, n)); e != api.ErrLong || r.Left() != sectors {
					t.Errorf("%d bytes, %d sectors: %v", n, sectors, e)
				}
			})
		}
		appends(t, "one that isn't", r, make([]byte, min(sectors, 64)*60))
	}
}

// TestAWritesError: at each sector of an entry; those up to it are pending, and the entry isn't there.
func TestAWritesError(t *testing.T) {
	for n, need := range sizes() {
		for at := 1; at <= need; at++ {
			name := fmt.Sprint(n, " bytes, write ", at)
			d := laid(t, need+2, 0)
			a := roll.Area{From: 1, Len: need + 1}
			r := open(t, name, d, a)
			b := rising(n, at)
			d.Break(at)
			if e := r.Append(b); e != api.ErrDown || r.Left() != need+1 {
				t.Errorf("%s: %v, %d left", name, e, r.Left())
			}
			if d.Pending() != at || !d.Down() {
				t.Errorf("%s: %d pending", name, d.Pending())
			}
			d.Crash(slices.Repeat([]int{64}, at)...)
			want := slices.Concat(make([]api.Sector, 1), told(b)[:at], make([]api.Sector, need+1-at))
			if !slices.Equal(all(t, d), want) {
				t.Errorf("%s: %v, not %v", name, all(t, d), want)
			}
			if at == need {
				open(t, name, d, a, b)
			} else {
				open(t, name, d, a)
			}
		}
	}
}

func TestSync(t *testing.T) {
	d := laid(t, 6, 0)
	a := roll.Area{From: 1, Len: 5}
	r := open(t, "blank", d, a)
	appends(t, "two", r, rising(61, 1), nil)
	if d.Pending() != 3 {
		t.Error("Append syncs", d.Pending())
	}
	syncs(t, d, r)
	appends(t, "one more", r, []byte("c"))
	d.Crash()
	finds(t, "crashed", d, a, rising(61, 1), nil)
}

// P2

func TestAppendLeavesItsBytes(t *testing.T) {
	d := laid(t, 4, 0)
	r := open(t, "blank", d, roll.Area{Len: 4})
	b := rising(200, 0)
	for _, n := range []int{3, 61} {
		appends(t, "some", r, b[:n])
	}
	if !bytes.Equal(b, rising(200, 0)) {
		t.Error("changed", b)
	}
	clear(b)
	finds(t, "kept", d, roll.Area{Len: 4}, rising(3, 0), rising(61, 0))
}

// TestAnswersAreNewMemory: with their spare room.
func TestAnswersAreNewMemory(t *testing.T) {
	want := [][]byte{[]byte("abc"), nil, rising(121, 1), []byte("d")}
	d := laid(t, 8, 0, row(want...)...)
	a := roll.Area{Len: 8}
	one, _, _ := roll.Scan(d, a)
	two, _, _ := roll.Scan(d, a)
	r, three, _ := roll.Open(d, a)
	for i := range one {
		for _, b := range [][]byte{one[i], three[i]} {
			clear(b[:cap(b)])
		}
		for _, l := range [][][]byte{one[i+1:], three[i+1:]} {
			if !slices.EqualFunc(l, want[i+1:], bytes.Equal) {
				t.Error("two entries share memory", l)
			}
		}
	}
	if !slices.EqualFunc(two, want, bytes.Equal) {
		t.Error("two answers share memory", two)
	}
	finds(t, "the disk", d, a, want...)
	appends(t, "one more", r, []byte("e"))
	finds(t, "one more", d, a, append(want, []byte("e"))...)
}

// TestRolls: rows of entries, each held against a plain list of them.
func TestRolls(t *testing.T) {
	next := chances(362436069)
	for i := range 300 {
		name := fmt.Sprint("roll ", i)
		n := 1 + next(90)
		a := roll.Area{From: next(4), Len: n}
		d := laid(t, a.From+n+next(3), 0)
		r := open(t, name, d, a)
		var want [][]byte
		for range 40 {
			b := rising([]int{next(5), 58 + next(5), next(400), next(4000)}[next(4)], next(256))
			need := len(told(b))
			code := api.OK
			switch {
			case len(b) > 3840:
				code = api.ErrLong
			case len(row(want...))+need > n:
				code = api.ErrFull
			default:
				want = append(want, b)
			}
			if e := r.Append(b); e != code || r.Left() != n-len(row(want...)) {
				t.Fatalf("%s: %d bytes: %v, not %v; %d left", name, len(b), e, code, r.Left())
			}
			if next(8) == 0 {
				r = open(t, name, d, a, want...)
			}
		}
		syncs(t, d, r)
		d.Crash()
		finds(t, name, d, a, want...)
	}
}
