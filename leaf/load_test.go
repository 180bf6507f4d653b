package leaf_test

import (
	"fmt"
	"math"
	"slices"
	"strings"
	"testing"

	"moiety/api"
	"moiety/disk"
	"moiety/leaf"
	"moiety/rec"
	"moiety/roll"
	"moiety/shelf"
)

// laid: a disk upon which these entries are in an area, for good, and other sectors around it.
func laid(t *testing.T, sectors int, a roll.Area, entries ...string) *disk.Disk {
	t.Helper()
	d := used(t, sectors)
	var l []record
	for _, b := range entries {
		l = append(l, record{b: b})
	}
	e := roll.Clear(d, a)
	for i, s := range told(l...) {
		if e == api.OK {
			e = d.Write(a.From+i, s)
		}
	}
	if e == api.OK {
		e = d.Sync()
	}
	if e != api.OK {
		t.Fatal(e)
	}
	return d
}

// entriesOf: the bytes of some records.
func entriesOf(l ...record) []string {
	var out []string
	for _, x := range l {
		out = append(out, x.b)
	}
	return out
}

// loads: that a shelf with just these records can be loaded, and the disk stays as it is.
func loads(t *testing.T, name string, d *disk.Disk, a roll.Area, n, room int, want ...record) {
	t.Helper()
	stays(t, name, d, func() {
		s, e := leaf.Load(d, a, n, room)
		if e != api.OK || s.Room() != room || s.Len() != len(want) || !shelf.Same(s, shelfOf(t, room, want...)) {
			t.Fatalf("%s: Load of %d: %d records, room %d, %v", name, n, s.Len(), s.Room(), e)
		}
	})
}

// refused: that none can be loaded, and the disk stays as it is.
func refused(t *testing.T, name string, d *disk.Disk, a roll.Area, n, room int, want api.Errno) {
	t.Helper()
	stays(t, name, d, func() { answers(t, name, d, a, n, room, want) })
}

// answers: that a Load is refused; also upon a disk that is down.
func answers(t *testing.T, name string, d *disk.Disk, a roll.Area, n, room int, want api.Errno) {
	t.Helper()
	if s, e := leaf.Load(d, a, n, room); e != want || s != (shelf.Shelf{}) {
		t.Errorf("%s: Load of %d, room %d: %d records, room %d, %v; not %v", name, n, room, s.Len(), s.Room(), e, want)
	}
}

// P21.3

func TestTheDocumentsExample(t *testing.T) {
	d := used(t, 5)
	a := roll.Area{From: 1, Len: 3}
	saves(t, "empty", d, a, shelfOf(t, 3))
	loads(t, "empty", d, a, 0, 3)
}

// TestLoad: of each number of records, with each room that does, and some that don't.
func TestLoad(t *testing.T) {
	l := append(kinds()[:9:9], greatest())
	a := roll.Area{From: 3, Len: 30}
	d := laid(t, 36, a, entriesOf(l...)...)
	for n := range len(l) + 1 {
		for _, room := range []int{1, 2, n - 1, n, n + 1, len(l), 4095, 4096} {
			name := fmt.Sprint("room ", room)
			switch {
			case room < 1:
				refused(t, name, d, a, n, room, api.ErrRange)
			case room < n:
				refused(t, name, d, a, n, room, api.ErrForm)
			default:
				loads(t, name, d, a, n, room, l[:n]...)
			}
		}
	}
	// Where the entries just fill the area, and where they don't begin with it.
	sectors := len(told(l...))
	loads(t, "full", d, roll.Area{From: 3, Len: sectors}, len(l), 10, l...)
	refused(t, "a sector less", d, roll.Area{From: 3, Len: sectors - 1}, len(l), 10, api.ErrForm)
	loads(t, "a record less", d, roll.Area{From: 3, Len: sectors - 1}, len(l)-1, 10, l[:len(l)-1]...)
	loads(t, "a record later", d, roll.Area{From: 4, Len: sectors}, len(l)-1, 10, l[1:]...)
}

// TestLoadOfAll: as many records as a shelf has room for.
func TestLoadOfAll(t *testing.T) {
	l := numbered(4096)
	a := roll.Area{Len: 4096}
	d := laid(t, 4096, a, entriesOf(l...)...)
	loads(t, "all", d, a, 4096, 4096, l...)
	refused(t, "all but room for one", d, a, 4096, 4095, api.ErrForm)
	refused(t, "one more", d, a, 4097, 4096, api.ErrForm)
	loads(t, "all but one", d, a, 4095, 4095, l[:4095]...)
}

// TestHowManyRecords: not below 0, and no more than there are.
func TestHowManyRecords(t *testing.T) {
	a := roll.Area{From: 2, Len: 6}
	for m := range 6 {
		l := kinds()[:m]
		d := laid(t, 9, a, entriesOf(l...)...)
		for n := range m + 1 {
			loads(t, fmt.Sprint(m, " there"), d, a, n, 9, l[:n]...)
		}
		for _, n := range []int{-1, -2, -m, -64, math.MinInt, math.MinInt + 1, m + 1, m + 2, 64, 4096, 4097, 1 << 32, math.MaxInt - 1, math.MaxInt} {
			if n != 0 {
				refused(t, fmt.Sprint(m, " there"), d, a, n, 9, api.ErrForm)
			}
		}
	}
}

func TestWrongRooms(t *testing.T) {
	a := roll.Area{Len: 4}
	for _, room := range []int{0, -1, -4096, 4097, 4098, 8192, 1 << 32, 1<<32 + 1, math.MinInt, math.MaxInt} {
		d := laid(t, 4, a, kinds()[0].b)
		for _, n := range []int{0, 1, 2, -1, math.MaxInt} {
			refused(t, "a wrong room", d, a, n, room, api.ErrRange)
			refused(t, "no area", d, roll.Area{From: 1, Len: 4}, n, room, api.ErrRange)
		}
		fail(t, d)
		answers(t, "down", d, a, 1, room, api.ErrRange)
	}
}

func TestLoadOfNoArea(t *testing.T) {
	for _, a := range wrongAreas() {
		d := laid(t, 4, roll.Area{Len: 4}, entriesOf(kinds()[:3]...)...)
		for _, n := range []int{0, 1, 3, 4, -1} {
			refused(t, fmt.Sprint(a), d, a, n, 9, api.ErrRange)
		}
		fail(t, d)
		for _, n := range []int{0, 1, -1} {
			answers(t, fmt.Sprint(a, " down"), d, a, n, 9, api.ErrDown)
		}
	}
	d := laid(t, 4, roll.Area{Len: 4}, entriesOf(kinds()[:3]...)...)
	fail(t, d)
	for _, n := range []int{0, 3, 4, -1} {
		answers(t, "down", d, roll.Area{Len: 4}, n, 9, api.ErrDown)
	}
}

// wrongEntries are no record's.
func wrongEntries() map[string]string {
	good := kinds()[4].b // of a
	key := "\x01a"
	return map[string]string{
		"no bytes":                   "",
		"no record":                  key,
		"a byte more":                good + "\x00",
		"a byte less":                good[:len(good)-1],
		"two in one":                 good + kinds()[5].b,
		"the record first":           good[2:] + key,
		"no key":                     "\x00" + good[2:],
		"a key of 25 bytes":          "\x19" + strings.Repeat("a", 25) + good[2:],
		"a key of 25 bytes, a few":   "\x19aa",
		"a key that ends":            "\x05aaaa",
		"another form of its length": "\x81\x00a" + good[2:],
		"a record of no kind":        key + "\x00",
		"a record of the kind 10":    key + "\x0a\x00",
		"another form of its kind":   key + "\x82\x00\x00",
		"another form of its number": key + "\x02\x80\x00",
		"a text of 65 bytes":         key + "\x01\x41" + strings.Repeat("t", 65),
		"a purse that is too full":   key + "\x04\x00\x02\x04",
		"a nought below nought, so":  key + "\x05\x00\x00\x00\x00\x00\x00\x00\x00",
		"a floating number's end":    key + "\x05" + one[:7],
		"a set without a cap":        key + "\x08\x00\x00",
		"a set of more than its cap": key + "\x08\x01\x02\x01p\x01q",
		"a set whose names fall":     key + "\x08\x02\x02\x01q\x01p",
		"a set of one name twice":    key + "\x08\x02\x02\x01q\x01q",
		"a top in no order":          key + "\x09\x02\x02" + one + "\x01q" + one + "\x01p",
		"some words":                 "no record at all",
		"many noughts":               strings.Repeat("\x00", 3840),
		"many bytes":                 strings.Repeat("\x18", 3840),
	}
}

// TestWhatIsNoRecord: at each place among some that are; those behind the first n don't matter.
func TestWhatIsNoRecord(t *testing.T) {
	around := []string{kinds()[0].b, kinds()[1].b, kinds()[8].b, kinds()[9].b}
	a := roll.Area{From: 1, Len: 75}
	for name, b := range wrongEntries() {
		for at := range len(around) + 1 {
			d := laid(t, 77, a, slices.Insert(slices.Clone(around), at, b)...)
			for n := range len(around) + 2 {
				if n > at {
					refused(t, fmt.Sprint(name, " at ", at), d, a, n, 9, api.ErrForm)
				} else {
					loads(t, fmt.Sprint(name, " at ", at), d, a, n, 9, append(kinds()[:2:2], kinds()[8:]...)[:n]...)
				}
			}
		}
	}
}

// keyed: a record of a key.
func keyed(key string) record {
	return record{key, api.Record{Kind: rec.Sum}, string([]byte{byte(len(key))}) + key + "\x02\x00"}
}

// TestKeysThatDoNotRise: byte by byte, of each two one behind the other.
func TestKeysThatDoNotRise(t *testing.T) {
	keys := []string{"\x00", "\x00\x00", "\x00a", "0", "00", "1", "B", "a", "a\x00", "aB", "aa", "aaa", strings.Repeat("a", 24), "ab", "b", "\x7f", "\x80", "\xc3\xa4", "\xff", "\xff\xff", strings.Repeat("\xff", 24)}
	a := roll.Area{Len: 4}
	for i, x := range keys {
		for j, y := range keys {
			name := fmt.Sprintf("%q, %q", x, y)
			d := laid(t, 4, a, keyed(x).b, keyed(y).b)
			loads(t, name, d, a, 1, 2, keyed(x))
			if i < j {
				loads(t, name, d, a, 2, 2, keyed(x), keyed(y))
			} else {
				refused(t, name, d, a, 2, 2, api.ErrForm)
			}
		}
	}
	for name, l := range map[string][3]string{"the last one falls": {"b", "c", "a"}, "the last one is between": {"b", "d", "c"}, "the first one again": {"b", "c", "b"}, "the second one again": {"b", "c", "c"}, "the first two alike": {"b", "b", "c"}, "the first one is too high": {"c", "b", "d"}} {
		d := laid(t, 4, a, keyed(l[0]).b, keyed(l[1]).b, keyed(l[2]).b)
		refused(t, name, d, a, 3, 9, api.ErrForm)
	}
}

// TestOnlyEntriesCount: what stands behind one that is torn isn't found.
func TestOnlyEntriesCount(t *testing.T) {
	l := []record{sized(61), keyed("a"), greatest()}
	a := roll.Area{From: 1, Len: 20}
	for at := range len(told(l...)) {
		d := laid(t, 22, a, entriesOf(l...)...)
		if e := d.Write(1+at, api.Sector{0: 1, 1: 61}); e != api.OK {
			t.Fatal(e)
		}
		there := min(max(at-1, 0), 2)
		for n := range len(l) + 1 {
			if n <= there {
				loads(t, fmt.Sprint("torn at ", at), d, a, n, 3, l[:n]...)
			} else {
				refused(t, fmt.Sprint("torn at ", at), d, a, n, 3, api.ErrForm)
			}
		}
	}
}

// chances: a row of numbers that is the same in each run.
func chances(seed uint64) func(int) int {
	return func(n int) int {
		seed ^= seed << 13
		seed ^= seed >> 7
		seed ^= seed << 17
		return int(seed % uint64(n))
	}
}

// TestRowsOfSaves: shelves that change, are saved in one of two areas, and are there behind a crash.
func TestRowsOfSaves(t *testing.T) {
	next := chances(88172645463325252)
	full := 0
	for i := range 60 {
		d := used(t, 200)
		room := 1 + next(40)
		s := shelfOf(t, room)
		there := [2]shelf.Shelf{s, s}
		areas := [2]roll.Area{{From: 1, Len: 20 + next(80)}, {From: 110, Len: 90}}
		for j := range 2 {
			saves(t, "nothing", d, areas[j], s)
		}
		for range 30 {
			x := append(kinds(), greatest(), sized(12+next(80)))[next(12)]
			x.key = fmt.Sprint(x.key[:min(len(x.key), 20)], next(10))
			if next(3) == 0 {
				s, _ = s.Cut(x.key)
			} else {
				s, _ = s.Set(x.key, x.r)
			}
			j := next(2)
			n, e := leaf.Save(d, areas[j], s)
			switch {
			case leaf.Need(s) > areas[j].Len:
				full++
				if n != 0 || e != api.ErrFull {
					t.Fatal(i, n, e)
				}
			case n != s.Len() || e != api.OK:
				t.Fatal(i, n, e)
			default:
				there[j] = s
			}
			d.Crash()
			for j, want := range there {
				got, e := leaf.Load(d, areas[j], want.Len(), room)
				if e != api.OK || got.Room() != room || !shelf.Same(got, want) {
					t.Fatal(i, j, e)
				}
			}
		}
	}
	if full < 20 {
		t.Error("too few that don't fit", full)
	}
}

// P2

func TestShelvesAreApart(t *testing.T) {
	a := roll.Area{From: 1, Len: 20}
	d := laid(t, 22, a, entriesOf(kinds()...)...)
	first, _ := leaf.Load(d, a, 10, 12)
	second, _ := leaf.Load(d, a, 10, 12)
	_, r, _ := first.At(9)
	r.List[0].Name = "x"
	first.Set("A", api.Record{Kind: rec.Sum, Num: 9})
	if e := roll.Clear(d, a); e != api.OK {
		t.Fatal(e)
	}
	for _, s := range []shelf.Shelf{first, second} {
		if !shelf.Same(s, shelfOf(t, 12, kinds()...)) {
			t.Error("changed")
		}
	}
}
