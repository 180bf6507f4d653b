package pin_test

import (
	"fmt"
	"testing"

	"moiety/api"
	"moiety/disk"
	"moiety/pin"
)

// P22.4

// is: that the newest pin is this one; of the zero one, that there is none.
func is(t *testing.T, name string, d *disk.Disk, want pin.Pin) {
	t.Helper()
	if want == (pin.Pin{}) {
		none(t, name, d, api.ErrNone)
	} else {
		tells(t, name, d, want)
	}
}

// bytesOf: those of a pin whose numbers are all below 128.
func bytesOf(p pin.Pin) string {
	return string([]byte{byte(p.Serial), byte(p.Lot), byte(p.Leaf), byte(p.Count), byte(p.Wal), byte(p.Room)})
}

// behind: that of a disk that crashed the newest pin is this one, and that the next one can be put then.
func behind(t *testing.T, name string, d *disk.Disk, want pin.Pin) {
	t.Helper()
	is(t, name, d, want)
	next := pin.Pin{Serial: want.Serial + 1, Lot: 50, Count: 1, Wal: 1, Room: 2}
	puts(t, name, d, next, bytesOf(next))
	is(t, name+", the next one", d, next)
}

// crashes: that a disk which goes down at whichever write of a Put, and keeps whatever of it, tells the pin that it had, or the new one.
func crashes(t *testing.T, name string, d *disk.Disk, old, p pin.Pin) {
	t.Helper()
	is(t, name, d, old)
	writes := 2
	if s, _ := d.Read(p.Serial % 2); s == (api.Sector{}) {
		writes = 1
	}
	for at := 1; at <= writes; at++ {
		for _, kept := range []int{-1, 0, 1, 2, 3, 4, 5, 6, 7, 8, 9, 10, 30, 61, 62, 63, 64, 65} {
			// The write that takes its place is the last one, and only that tells it.
			want := old
			if at == writes && kept >= 64 {
				want = p
			}
			c := d.Clone()
			c.Break(at)
			if e := pin.Put(c, p); e != api.ErrDown || !c.Down() || c.Pending() != 1 {
				t.Fatalf("%s: write %d: %v, %d pending", name, at, e, c.Pending())
			}
			if e := pin.Put(c, p); e != api.ErrDown || c.Pending() != 1 {
				t.Fatalf("%s: write %d, down: %v, %d pending", name, at, e, c.Pending())
			}
			c.Crash(kept)
			behind(t, fmt.Sprint(name, ", write ", at, ", kept ", kept), c, want)
		}
	}
	// It is for good, whatever the disk loses then.
	c := d.Clone()
	c.Break(writes + 1)
	if e := pin.Put(c, p); e != api.OK || c.Pending() != 0 {
		t.Fatal(name, e)
	}
	fail(t, c)
	c.Crash()
	behind(t, name+", put", c, p)
}

// TestPutGoesDown: of the first pin, and of those behind one; whatever stands in its place.
func TestPutGoesDown(t *testing.T) {
	places := map[string]api.Sector{
		"blank":             {},
		"ones":              {0: 1, 1: 1, 2: 1},
		"the last byte":     {63: 1},
		"a whole sector":    other(1),
		"no pin":            sealed("\x00\x00\x00\x00\x00\x00"),
		"all bits":          {0: 255, 1: 255, 2: 255, 63: 255},
		"a pin's, torn":     {0: 1, 1: 6, 2: 1, 3: 9},
		"a pin's, all torn": {1: 6, 2: 3, 3: 9, 63: 1},
	}
	for name, s := range places {
		for serial := 1; serial < 9; serial++ {
			old := pin.Pin{}
			l := []api.Sector{s, s, other(2)}
			if serial > 1 {
				old = plain(serial - 1)
				l[old.Serial%2] = sealed(bytesOf(old))
			}
			p := pin.Pin{Serial: serial, Lot: 40, Count: 5, Wal: 1, Room: 9}
			crashes(t, fmt.Sprint(name, ", ", serial), laid(t, l...), old, p)
		}
	}
}

// TestTheElderGoesDown: where the one ahead of the old one stands in its place.
func TestTheElderGoesDown(t *testing.T) {
	for serial := 3; serial < 9; serial++ {
		elder, old := pin.Pin{Serial: serial - 2, Lot: 2, Leaf: 1, Count: 4, Wal: 1, Room: 4}, plain(serial-1)
		for _, p := range []pin.Pin{plain(serial), {Serial: serial, Room: 4}, {Serial: serial, Lot: 2, Leaf: 1, Count: 4, Wal: 1, Room: 4}, {Serial: serial, Lot: 70, Count: 5, Room: 5}} {
			d, _ := disk.New(2)
			puts(t, "the elder", d, elder, bytesOf(elder))
			puts(t, "the old one", d, old, bytesOf(old))
			crashes(t, fmt.Sprint(p), d, old, p)
		}
	}
}

// TestTheSyncGoesDown: all was written, and nothing synced.
func TestTheSyncGoesDown(t *testing.T) {
	for kept := range 66 {
		p := plain(5)
		d, _ := disk.New(2)
		puts(t, "the old one", d, plain(4), bytesOf(plain(4)))
		if e := d.Write(1, sealed(bytesOf(p))); e != api.OK {
			t.Fatal(e)
		}
		d.Crash(kept)
		want := plain(4)
		if kept >= 64 {
			want = p
		}
		behind(t, fmt.Sprint("kept ", kept), d, want)
	}
}

// chances: a row of numbers that is the same in each run.
func chances(seed uint64) func(int) int {
	return func(n int) int {
		seed ^= seed << 13
		seed ^= seed >> 7
		seed ^= seed << 17
		return int(seed % uint64(n))
	}
}

// TestRowsOfCrashes: pins that are put one behind the other upon a disk that goes down now and then.
func TestRowsOfCrashes(t *testing.T) {
	next := chances(88172645463325252)
	ends := map[string]int{}
	for i := range 100 {
		d := used(t, 2)
		var old pin.Pin
		for range 100 {
			room := 1 + next(20)
			p := pin.Pin{Serial: old.Serial + 1, Lot: next(128), Leaf: next(2), Count: next(room + 1), Wal: next(2), Room: room}
			d.Break(next(4))
			e := pin.Put(d, p)
			if !d.Down() && e != api.OK || d.Down() && e != api.ErrDown {
				t.Fatal(i, e)
			}
			d.Crash(next(66))
			got, _ := pin.Get(d)
			switch {
			case e == api.OK && got == p:
				ends["put"]++
			case e == api.ErrDown && got == p:
				ends["kept"]++
			case e == api.ErrDown && got == old:
				ends["lost"]++
			default:
				t.Fatal(i, e, got, p, old)
			}
			old = got
		}
	}
	if min(ends["put"], ends["kept"], ends["lost"]) < 50 {
		t.Error("not of each kind", ends)
	}
}
