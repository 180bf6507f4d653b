package leaf_test

import (
	"fmt"
	"math"
	"slices"
	"strconv"
	"strings"
	"testing"

	"moiety/api"
	"moiety/disk"
	"moiety/leaf"
	"moiety/rec"
	"moiety/roll"
	"moiety/shelf"
)

// record is a key and what it has, and the bytes of both, as the document tells them.
type record struct {
	key string
	r   api.Record
	b   string
}

// one is the place of 1.
const one = "\xbf\xf0\x00\x00\x00\x00\x00\x00"

// kinds: a record of each kind, as their keys rise.
func kinds() []record {
	items := []api.Item{{Name: ""}, {Name: "q"}}
	best := []api.Item{{Score: 1, Name: "p"}, {Score: 1, Name: "q"}}
	return []record{
		{"\x00", api.Record{Kind: rec.Sum, Num: 2}, "\x01\x00\x02\x04"},
		{"\x00\x00", api.Record{Kind: rec.Text}, "\x02\x00\x00\x01\x00"},
		{"A", api.Record{Kind: rec.Text, Text: "ab"}, "\x01A\x01\x02ab"},
		{"B", api.Record{Kind: rec.Count, Num: -2}, "\x01B\x03\x03"},
		{"a", api.Record{Kind: rec.Purse, Low: -1, High: 10, Num: 5}, "\x01a\x04\x01\x14\x0a"},
		{"aa", api.Record{Kind: rec.Peak, Real: 1}, "\x02aa\x05" + one},
		{"ab", api.Record{Kind: rec.Dip, Real: 1}, "\x02ab\x06" + one},
		{"b", api.Record{Kind: rec.Level, Real: 1}, "\x01b\x07" + one},
		{"k23456789012345678901234", api.Record{Kind: rec.Set, Cap: 3, List: items}, "\x18k23456789012345678901234\x08\x03\x02\x00\x01q"},
		{"\xff", api.Record{Kind: rec.Top, Cap: 2, List: best}, "\x01\xff\x09\x02\x02" + one + "\x01p" + one + "\x01q"},
	}
}

// sized: a record that has so many bytes with its key, from 12 to 91; the more, the higher the key.
func sized(n int) record {
	m := min(n-5, 64)
	key := strconv.Itoa(n) + strings.Repeat("k", n-5-m)
	text := strings.Repeat("t", m)
	return record{key, api.Record{Kind: rec.Text, Text: text}, string([]byte{byte(len(key))}) + key + "\x01" + string([]byte{byte(m)}) + text}
}

// greatest: the record that has the most bytes, 828.
func greatest() record {
	x := record{key: strings.Repeat("z", 24), r: api.Record{Kind: rec.Top, Cap: 32}}
	x.b = "\x18" + x.key + "\x09\x20\x20"
	for i := range 32 {
		name := strings.Repeat("n", 15) + string([]byte{byte(i)})
		x.r.List = append(x.r.List, api.Item{Score: 1, Name: name})
		x.b += one + "\x10" + name
	}
	return x
}

// numbered: so many records, whose keys rise.
func numbered(n int) []record {
	var l []record
	for i := range n {
		key := fmt.Sprintf("%04d", i)
		l = append(l, record{key, api.Record{Kind: rec.Sum, Num: int64(i % 64)}, "\x04" + key + "\x02" + string([]byte{byte(2 * (i % 64))})})
	}
	return l
}

// shelfOf: one with these records, which come to it from the last one on.
func shelfOf(t *testing.T, room int, l ...record) shelf.Shelf {
	t.Helper()
	s, e := shelf.New(room)
	for _, x := range slices.Backward(l) {
		if e == api.OK {
			s, e = s.Set(x.key, x.r)
		}
	}
	if e != api.OK {
		t.Fatal(e)
	}
	return s
}

// need: how many sectors these bytes have.
func need(b string) int { return max(1, (len(b)+59)/60) }

// told: the sectors of some records, as the document tells them.
func told(l ...record) []api.Sector {
	var out []api.Sector
	for _, x := range l {
		b := x.b
		for follow := need(b) - 1; follow >= 0; follow-- {
			part := b[:min(len(b), 60)]
			s := api.Sector{0: 1, 1: byte(1 + len(part)), 2: byte(follow), 63: 1}
			copy(s[3:], part)
			out, b = append(out, s), b[len(part):]
		}
	}
	return out
}

// other: a whole sector, which isn't a record's; each i has another one.
func other(i int) api.Sector {
	return api.Sector{0: 1, 1: 3, 3: 7, 4: byte(i), 63: 1}
}

// used: a disk of so many sectors, all of which have something.
func used(t *testing.T, sectors int) *disk.Disk {
	t.Helper()
	d, e := disk.New(sectors)
	for i := range sectors {
		if e == api.OK {
			e = d.Write(i, other(i))
		}
	}
	if e == api.OK {
		e = d.Sync()
	}
	if e != api.OK {
		t.Fatal(e)
	}
	return d
}

// all: what is read of a disk.
func all(t *testing.T, d *disk.Disk) []api.Sector {
	t.Helper()
	l := make([]api.Sector, d.Len())
	for i := range l {
		var e api.Errno
		if l[i], e = d.Read(i); e != api.OK {
			t.Fatal(e)
		}
	}
	return l
}

// stays: that something that is done changes nothing of a disk.
func stays(t *testing.T, name string, d *disk.Disk, done func()) {
	t.Helper()
	before, pending, writes := all(t, d), d.Pending(), d.Writes()
	done()
	if !slices.Equal(all(t, d), before) || d.Pending() != pending || d.Writes() != writes {
		t.Errorf("%s: the disk was changed", name)
	}
}

// fail: that a disk goes down now.
func fail(t *testing.T, d *disk.Disk) {
	t.Helper()
	s, _ := d.Read(0)
	d.Break(1)
	if e := d.Write(0, s); e != api.ErrDown {
		t.Fatal(e)
	}
}

// wrongAreas: areas that a disk of four sectors hasn't.
func wrongAreas() []roll.Area {
	var l []roll.Area
	for _, c := range [][2]int{{0, 0}, {0, 5}, {1, 4}, {4, 1}, {4, 0}, {-1, 2}, {-1, 5}, {0, -1}, {2, -1}, {math.MaxInt, math.MaxInt}, {math.MaxInt, 1}, {1, math.MaxInt}, {math.MinInt, math.MinInt}, {3, math.MinInt}} {
		l = append(l, roll.Area{From: c[0], Len: c[1]})
	}
	return l
}

// P21.1

func TestNeed(t *testing.T) {
	for n, want := range map[int]int{12: 1, 59: 1, 60: 1, 61: 2, 62: 2, 69: 2, 91: 2} {
		x := sized(n)
		if len(x.b) != n || leaf.Need(shelfOf(t, 1, x)) != want {
			t.Errorf("%d bytes: %d", len(x.b), leaf.Need(shelfOf(t, 1, x)))
		}
	}
	if n := leaf.Need(shelfOf(t, 1, greatest())); n != 14 || len(greatest().b) != 828 {
		t.Error("the greatest", n, len(greatest().b))
	}
	// Each record has sectors of its own.
	if n := leaf.Need(shelfOf(t, 9, sized(12), sized(61), sized(60), greatest())); n != 18 {
		t.Error("four", n)
	}
	for n := range kinds() {
		if m := leaf.Need(shelfOf(t, 9, kinds()[:n]...)); m != n {
			t.Error(n, m)
		}
	}
	if n := leaf.Need(shelfOf(t, 4096, numbered(4096)...)); n != 4096 {
		t.Error("all that can be", n)
	}
}

func TestNeedOfNone(t *testing.T) {
	cut, ok := shelfOf(t, 1, sized(61)).Cut(sized(61).key)
	for name, s := range map[string]shelf.Shelf{"empty": shelfOf(t, 7), "zero": {}, "cut": cut} {
		if n := leaf.Need(s); n != 0 || !ok {
			t.Error(name, n)
		}
	}
}

// P21.2

// saves: that a shelf can be saved, and that its area has just these records then, for good, and nothing else of the disk is changed.
func saves(t *testing.T, name string, d *disk.Disk, a roll.Area, s shelf.Shelf, want ...record) {
	t.Helper()
	l := all(t, d)
	clear(l[a.From : a.From+a.Len])
	copy(l[a.From:], told(want...))
	if n, e := leaf.Save(d, a, s); n != len(want) || e != api.OK || d.Pending() != 0 {
		t.Fatalf("%s: Save: %d, %v, %d pending", name, n, e, d.Pending())
	}
	if !slices.Equal(all(t, d), l) {
		t.Fatalf("%s: %v, not %v", name, all(t, d), l)
	}
	d.Crash()
	if !slices.Equal(all(t, d), l) {
		t.Errorf("%s: not for good", name)
	}
}

// wont: that a shelf can't be saved, and all is as it was.
func wont(t *testing.T, name string, d *disk.Disk, a roll.Area, s shelf.Shelf, want api.Errno) {
	t.Helper()
	stays(t, name, d, func() {
		if n, e := leaf.Save(d, a, s); n != 0 || e != want {
			t.Errorf("%s: Save: %d, %v; not %v", name, n, e, want)
		}
	})
}

// TestSave: of records of each kind, and in each length of them; one area is saved to again and again.
func TestSave(t *testing.T) {
	again := used(t, 40)
	for i := range 12 {
		for n := range len(kinds()) + 1 {
			name := fmt.Sprint(n, " records, ", i)
			l := kinds()[:n]
			a := roll.Area{From: i, Len: len(told(l...)) + 1 + i}
			saves(t, name, used(t, 40), a, shelfOf(t, 10+i, l...), l...)
			saves(t, name+", again", again, a, shelfOf(t, 10, l...), l...)
		}
	}
	for n := 12; n <= 91; n++ {
		x := sized(n)
		saves(t, fmt.Sprint(n, " bytes"), used(t, 40), roll.Area{From: 1, Len: 30}, shelfOf(t, 2, x, greatest()), x, greatest())
	}
}

// TestSaveOfAll: a shelf that is full, upon a disk of as many sectors as can be.
func TestSaveOfAll(t *testing.T) {
	l := numbered(4096)
	s := shelfOf(t, 4096, l...)
	saves(t, "all", used(t, 4096), roll.Area{Len: 4096}, s, l...)
	wont(t, "all", used(t, 4096), roll.Area{From: 1, Len: 4095}, s, api.ErrFull)
}

// TestSaveOfNone: writes no entry; what was there is gone.
func TestSaveOfNone(t *testing.T) {
	for name, s := range map[string]shelf.Shelf{"empty": shelfOf(t, 7), "zero": {}} {
		for n := 1; n < 9; n++ {
			d := used(t, 9)
			saves(t, name, d, roll.Area{From: 9 - n, Len: n}, s)
			if d.Writes() != 9+n {
				t.Error(name, n, d.Writes())
			}
			saves(t, name+", once more", d, roll.Area{From: 9 - n, Len: n}, s)
			if d.Writes() != 9+n {
				t.Error(name, n, "once more", d.Writes())
			}
		}
	}
}

// TestSaveOfTooMany: by a sector, or more; what was there stays.
func TestSaveOfTooMany(t *testing.T) {
	for _, l := range [][]record{{sized(60)}, {sized(61)}, {greatest()}, {sized(12), sized(61)}, kinds(), numbered(20)} {
		s := shelfOf(t, 20, l...)
		sectors := len(told(l...))
		for n := 1; n <= sectors+3; n++ {
			name := fmt.Sprint(len(l), " records, ", n, " sectors")
			d := used(t, 30)
			saves(t, name, d, roll.Area{From: 28, Len: 2}, shelfOf(t, 1, sized(61)), sized(61))
			a := roll.Area{From: 2, Len: n}
			if n >= sectors {
				saves(t, name, d, a, s, l...)
				continue
			}
			wont(t, name, d, a, s, api.ErrFull)
			d.Break(1)
			wont(t, name, d, a, s, api.ErrFull)
			d.Break(0)
			if n > 1 {
				wont(t, name, d, roll.Area{From: 28, Len: 2}, shelfOf(t, 20, append(numbered(n), greatest())...), api.ErrFull)
			}
			if u, e := leaf.Load(d, roll.Area{From: 28, Len: 2}, 1, 1); e != api.OK || !shelf.Same(u, shelfOf(t, 1, sized(61))) {
				t.Error(name, "what was there", e)
			}
		}
	}
}

// TestSaveToNoArea: of a shelf for which there would be room, of none, and of one that is too great.
func TestSaveToNoArea(t *testing.T) {
	for _, s := range []shelf.Shelf{shelfOf(t, 1, sized(12)), shelfOf(t, 3), {}, shelfOf(t, 1, greatest())} {
		for _, a := range wrongAreas() {
			name := fmt.Sprint(a)
			d := used(t, 4)
			wont(t, name, d, a, s, api.ErrRange)
			fail(t, d)
			if n, e := leaf.Save(d, a, s); n != 0 || e != api.ErrDown {
				t.Error(name, "down", n, e)
			}
		}
		d := used(t, 4)
		fail(t, d)
		pending, writes := d.Pending(), d.Writes()
		if n, e := leaf.Save(d, roll.Area{From: 1, Len: 3}, s); n != 0 || e != api.ErrDown {
			t.Error("down", n, e)
		}
		if d.Pending() != pending || d.Writes() != writes {
			t.Error("written while down")
		}
	}
}

// TestSaveGoesDown: at each write: those that wipe the area are synced ahead of the entries, and these not one by one.
func TestSaveGoesDown(t *testing.T) {
	l := []record{sized(12), sized(61), sized(62), greatest()}
	s := shelfOf(t, 4, l...)
	a := roll.Area{From: 2, Len: 25}
	sectors := len(told(l...))
	for at := 1; at <= a.Len+sectors+1; at++ {
		name := fmt.Sprint("write ", at)
		d := used(t, 30)
		d.Break(at)
		if at > a.Len+sectors {
			saves(t, name, d, a, s, l...)
			continue
		}
		n, e := leaf.Save(d, a, s)
		pending := at
		if at > a.Len {
			pending = at - a.Len
		}
		if n != 0 || e != api.ErrDown || !d.Down() || d.Pending() != pending {
			t.Fatalf("%s: %d, %v, %d pending", name, n, e, d.Pending())
		}
		d.Crash(slices.Repeat([]int{64}, pending)...)
		got := all(t, d)
		for i := range 2 {
			if got[i] != other(i) {
				t.Error(name, "ahead of the area")
			}
		}
		if at > a.Len && !slices.Equal(got[2:2+pending], told(l...)[:pending]) {
			t.Error(name, "not as they rise")
		}
		saves(t, name+", again", d, a, s, l...)
	}
}

// TestOneSync: also behind no entries; it takes all that was pending.
func TestOneSync(t *testing.T) {
	for n := range 3 {
		d, _ := disk.New(6)
		if e := d.Write(0, other(0)); e != api.OK {
			t.Fatal(e)
		}
		// A disk that goes down behind the last entry was not synced ahead of it.
		c := d.Clone()
		c.Break(n)
		if m, e := leaf.Save(c, roll.Area{From: 1, Len: 5}, shelfOf(t, 3, kinds()[:n]...)); n > 0 && (m != 0 || e != api.ErrDown || c.Pending() != n+1) {
			t.Error(n, m, e, c.Pending())
		}
		saves(t, fmt.Sprint(n, " records"), d, roll.Area{From: 1, Len: 5}, shelfOf(t, 3, kinds()[:n]...), kinds()[:n]...)
		if s, _ := d.Read(0); s != other(0) || d.Writes() != n+1 {
			t.Error(n, "what was pending", s, d.Writes())
		}
	}
}

// P2

func TestSaveLeavesItsShelf(t *testing.T) {
	s := shelfOf(t, 12, kinds()...)
	d := used(t, 30)
	saves(t, "once", d, roll.Area{From: 1, Len: 28}, s, kinds()...)
	saves(t, "twice", d, roll.Area{From: 3, Len: 20}, s, kinds()...)
	if !shelf.Same(s, shelfOf(t, 12, kinds()...)) || s.Room() != 12 {
		t.Error("changed")
	}
}
