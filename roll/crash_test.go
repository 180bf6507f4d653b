package roll_test

import (
	"fmt"
	"slices"
	"testing"

	"moiety/api"
	"moiety/disk"
	"moiety/roll"
)

// P19.4

// front: how many entries are whole, if of each of their sectors so many bytes are kept.
func front(entries [][]byte, kept []int) int {
	for n, b := range entries {
		for range told(b) {
			if len(kept) == 0 || kept[0] < 64 {
				return n
			}
			kept = kept[1:]
		}
	}
	return len(entries)
}

// crashes: that of a disk whose pending writes are those of some entries an Open finds just the front, whatever is kept; and that what comes behind it then is found, too.
func crashes(t *testing.T, d *disk.Disk, a roll.Area, synced, entries [][]byte, kept []int) {
	t.Helper()
	name := fmt.Sprint("kept ", kept)
	c := d.Clone()
	c.Crash(kept...)
	want := append(slices.Clone(synced), entries[:front(entries, kept)]...)
	finds(t, name, c, a, want...)
	r := open(t, name, c, a, want...)
	c.Crash()
	left := append(row(want...), make([]api.Sector, a.Len-len(row(want...)))...)
	if !slices.Equal(all(t, c)[a.From:a.From+a.Len], left) {
		t.Fatalf("%s: what is behind the entries isn't blank", name)
	}
	if r.Left() == 0 {
		return
	}
	appends(t, name, r, nil)
	syncs(t, c, r)
	c.Crash()
	finds(t, name, c, a, append(want, nil)...)
}

// pending: a disk with an area of so many sectors, upon which something stood that is no entry, of these entries those that are synced, and those that aren't.
func pending(t *testing.T, n int, synced, entries [][]byte) (*disk.Disk, roll.Area) {
	t.Helper()
	l := slices.Concat([]api.Sector{{5}}, row(slices.Repeat([][]byte{rising(100, 3)}, n/2)...))
	d := laid(t, n+3, 2, l[:n]...)
	a := roll.Area{From: 2, Len: n}
	r := open(t, "what stood there", d, a)
	appends(t, "synced", r, synced...)
	syncs(t, d, r)
	appends(t, "not synced", r, entries...)
	if d.Pending() != len(row(entries...)) {
		t.Fatal(d.Pending())
	}
	return d, a
}

// TestEachFront: of some entries each row of sectors that are kept, torn, or lost.
func TestEachFront(t *testing.T) {
	synced := [][]byte{rising(61, 1), nil}
	entries := [][]byte{rising(61, 50), nil, rising(121, 99)}
	d, a := pending(t, 10, synced, entries)
	some := []int{0, 3, 63, 64}
	for i := range 1 << 12 {
		var kept []int
		for at := range 6 {
			kept = append(kept, some[i>>(2*at)&3])
		}
		crashes(t, d, a, synced, entries, kept)
	}
}

// TestEachTornSector: of some entries each single sector, of which each number of bytes is kept, all others being kept; and each row that ends early.
func TestEachTornSector(t *testing.T) {
	for _, synced := range [][][]byte{nil, {nil}, {rising(120, 1), []byte("b")}} {
		entries := [][]byte{rising(60, 50), rising(59, 2), make([]byte, 61), rising(180, 99), nil}
		n := len(row(entries...))
		d, a := pending(t, len(row(synced...))+n, synced, entries)
		for at := range n {
			kept := slices.Repeat([]int{64}, n)
			for k := -1; k <= 66; k++ {
				kept[at] = k
				crashes(t, d, a, synced, entries, kept)
			}
			crashes(t, d, a, synced, entries, kept[:at])
		}
		crashes(t, d, a, synced, entries, slices.Repeat([]int{64}, n))
	}
}

// TestTheLongestEntryIsTorn: at each of its sectors.
func TestTheLongestEntryIsTorn(t *testing.T) {
	entries := [][]byte{rising(3840, 9), []byte("b")}
	synced := [][]byte{rising(3839, 7)}
	d, a := pending(t, 130, synced, entries)
	for at := range 65 {
		kept := slices.Repeat([]int{64}, 65)
		for _, k := range []int{0, 1, 62, 63} {
			kept[at] = k
			crashes(t, d, a, synced, entries, kept)
		}
	}
	crashes(t, d, a, synced, entries, slices.Repeat([]int{64}, 65))
}

// TestAppendsThatGoDown: at each write of some entries; of what is pending each front is found.
func TestAppendsThatGoDown(t *testing.T) {
	synced := [][]byte{[]byte("a")}
	entries := [][]byte{rising(61, 1), []byte("b"), rising(180, 2)}
	for at := 1; at <= 6; at++ {
		for torn := range at {
			for _, k := range []int{0, 20, 63, 64} {
				d, a := pending(t, 8, synced, nil)
				r := open(t, "synced", d, a, synced...)
				d.Break(at)
				for i, b := range entries {
					if e := r.Append(b); e != api.OK {
						if e != api.ErrDown || len(row(entries[:i+1]...)) < at {
							t.Fatal(at, i, e)
						}
						break
					}
				}
				kept := slices.Repeat([]int{64}, at)
				kept[torn] = k
				crashes(t, d, a, synced, entries, kept)
			}
		}
	}
}

// kept: of so many writes how much of each is kept, most of some, little of others.
func kept(next func(int) int, n int) []int {
	var l []int
	whole := next(12)
	for range n {
		k := 64
		if next(12) >= whole {
			k = next(70) - 3
		}
		l = append(l, k)
	}
	return l
}

// TestRowsOfCrashes: rolls to which entries come, which are synced now and then, and whose disk crashes now and then.
func TestRowsOfCrashes(t *testing.T) {
	next := chances(521288629)
	for i := range 400 {
		name := fmt.Sprint("roll ", i)
		d, a := pending(t, 40, nil, nil)
		r := open(t, name, d, a)
		var synced, entries [][]byte
		for range 60 {
			switch next(6) {
			case 0:
				syncs(t, d, r)
				synced, entries = append(synced, entries...), nil
			case 1:
				l := kept(next, len(row(entries...)))
				d.Crash(l...)
				synced, entries = append(synced, entries[:front(entries, l)]...), nil
				r = open(t, name, d, a, synced...)
			case 2:
				if next(5) == 0 {
					if e := roll.Clear(d, a); e != api.OK {
						t.Fatal(name, e)
					}
					synced, entries = nil, nil
					r = open(t, name, d, a)
				}
			default:
				b := rising([]int{next(3), 59 + next(4), next(200)}[next(3)], next(256))
				if len(told(b)) <= r.Left() {
					appends(t, name, r, b)
					entries = append(entries, b)
				}
			}
			finds(t, name, d, a, append(slices.Clone(synced), entries...)...)
		}
	}
}
