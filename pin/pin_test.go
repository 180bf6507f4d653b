package pin_test

import (
	"fmt"
	"math"
	"slices"
	"testing"

	"moiety/api"
	"moiety/disk"
	"moiety/pin"
)

const m40 = 1 << 40

// plain is a pin that may be.
func plain(serial int) pin.Pin {
	return pin.Pin{Serial: serial, Lot: 9, Leaf: 1, Count: 2, Room: 7}
}

// edges: pins that may be, with numbers at their ends, and the bytes of each.
func edges() map[pin.Pin]string {
	big := "\x80\x80\x80\x80\x80\x20"
	return map[pin.Pin]string{
		{Serial: 1, Room: 1}:                                                   "\x01\x00\x00\x00\x00\x01",
		{Serial: 4, Lot: 9, Leaf: 1, Count: 2, Room: 7}:                        "\x04\x09\x01\x02\x00\x07",
		{Serial: 5, Lot: 8, Count: 3, Wal: 1, Room: 6}:                         "\x05\x08\x00\x03\x01\x06",
		{Serial: 127, Lot: 127, Count: 127, Room: 127}:                         "\x7f\x7f\x00\x7f\x00\x7f",
		{Serial: 128, Lot: 128, Count: 128, Room: 128}:                         "\x80\x01\x80\x01\x00\x80\x01\x00\x80\x01",
		{Serial: 300, Lot: 301, Leaf: 1, Wal: 1, Room: 4096}:                   "\xac\x02\xad\x02\x01\x00\x01\x80\x20",
		{Serial: m40 - 1, Lot: m40 - 1, Count: 4095, Room: 4095}:               "\xff\xff\xff\xff\xff\x1f\xff\xff\xff\xff\xff\x1f\x00\xff\x1f\x00\xff\x1f",
		{Serial: m40, Lot: m40, Leaf: 1, Count: 4096, Wal: 1, Room: 4096}:      big + big + "\x01\x80\x20\x01\x80\x20",
		{Serial: m40, Count: 1, Room: 1}:                                       big + "\x00\x00\x01\x00\x01",
		{Serial: 2, Lot: m40, Leaf: 1, Wal: 1, Count: 1, Room: 4096}:           "\x02" + big + "\x01\x01\x01\x80\x20",
		{Serial: 3, Lot: 1, Leaf: 0, Count: 4096, Wal: 0, Room: 4096}:          "\x03\x01\x00\x80\x20\x00\x80\x20",
		{Serial: 1<<35 + 1, Lot: 1 << 35, Leaf: 1, Count: 0, Wal: 0, Room: 64}: "\x81\x80\x80\x80\x80\x01\x80\x80\x80\x80\x80\x01\x01\x00\x00\x40",
	}
}

// with: a pin, one of whose numbers, by its place among them, is another one.
func with(p pin.Pin, at, n int) pin.Pin {
	*[]*int{&p.Serial, &p.Lot, &p.Leaf, &p.Count, &p.Wal, &p.Room}[at] = n
	return p
}

// wrong: pins that may not be.
func wrong() []pin.Pin {
	l := []pin.Pin{{}, {Serial: 1}, {Room: 1}}
	for _, serial := range []int{1, 2, 4} {
		p := plain(serial)
		for at := range 6 {
			for _, n := range []int{-1, -2, -m40, math.MinInt, m40 + 1, m40 + 2, 2 * m40, math.MaxInt} {
				l = append(l, with(p, at, n))
			}
		}
		l = append(l,
			with(p, 0, 0),
			with(p, 2, 2), with(p, 2, 3), with(p, 4, 2), with(p, 4, 3), with(with(p, 2, 2), 4, 2),
			with(p, 3, 8), with(p, 3, 4096), with(p, 5, 1), with(p, 5, 4097),
			pin.Pin{Serial: serial},
			pin.Pin{Serial: serial, Count: 1},
			pin.Pin{Serial: serial, Count: 2, Room: 1},
			pin.Pin{Serial: serial, Count: 4097, Room: 4096},
			pin.Pin{Serial: serial, Count: 4097, Room: 4097},
			pin.Pin{Serial: serial, Room: 4097},
			pin.Pin{Serial: serial, Count: -1, Room: -1},
		)
	}
	return l
}

// sealed: a whole sector of some bytes, as the document tells it.
func sealed(b string) api.Sector {
	s := api.Sector{0: 1, 1: byte(len(b)), 63: 1}
	copy(s[2:], b)
	return s
}

// other: a whole sector, which isn't a pin's; each i has another one.
func other(i int) api.Sector { return sealed("other " + string([]byte{byte(i)})) }

// used: a disk of so many sectors, all of which have something.
func used(t *testing.T, sectors int) *disk.Disk {
	t.Helper()
	l := make([]api.Sector, sectors)
	for i := range l {
		l[i] = other(i)
	}
	return laid(t, l...)
}

// laid: a disk of these sectors, which are for good.
func laid(t *testing.T, l ...api.Sector) *disk.Disk {
	t.Helper()
	d, e := disk.New(len(l))
	for i, s := range l {
		if e == api.OK {
			e = d.Write(i, s)
		}
	}
	if e == api.OK {
		e = d.Sync()
	}
	if e != api.OK {
		t.Fatal(e)
	}
	return d
}

// all: what is read of a disk.
func all(t *testing.T, d *disk.Disk) []api.Sector {
	t.Helper()
	l := make([]api.Sector, d.Len())
	for i := range l {
		var e api.Errno
		if l[i], e = d.Read(i); e != api.OK {
			t.Fatal(e)
		}
	}
	return l
}

// stays: that something that is done changes nothing of a disk.
func stays(t *testing.T, name string, d *disk.Disk, done func()) {
	t.Helper()
	before, pending, writes := all(t, d), d.Pending(), d.Writes()
	done()
	if !slices.Equal(all(t, d), before) || d.Pending() != pending || d.Writes() != writes {
		t.Errorf("%s: the disk was changed", name)
	}
}

// fail: that a disk goes down now.
func fail(t *testing.T, d *disk.Disk) {
	t.Helper()
	s, _ := d.Read(0)
	d.Break(1)
	if e := d.Write(0, s); e != api.ErrDown {
		t.Fatal(e)
	}
}

// puts: that a pin can be put, is for good, and that nothing but its place is changed.
func puts(t *testing.T, name string, d *disk.Disk, p pin.Pin, b string) {
	t.Helper()
	want := all(t, d)
	want[p.Serial%2] = sealed(b)
	if e := pin.Put(d, p); e != api.OK || d.Pending() != 0 {
		t.Fatalf("%s: Put of %v: %v, %d pending", name, p, e, d.Pending())
	}
	if l := all(t, d); !slices.Equal(l, want) {
		t.Fatalf("%s: %v, not %v", name, l, want)
	}
	d.Crash()
	if l := all(t, d); !slices.Equal(l, want) {
		t.Errorf("%s: not for good", name)
	}
}

// tells: that this is the newest pin, and the disk stays as it is.
func tells(t *testing.T, name string, d *disk.Disk, want pin.Pin) {
	t.Helper()
	stays(t, name, d, func() {
		if p, e := pin.Get(d); e != api.OK || p != want {
			t.Errorf("%s: Get: %v, %v; not %v", name, p, e, want)
		}
	})
}

// none: that no pin is told, and why.
func none(t *testing.T, name string, d *disk.Disk, want api.Errno) {
	t.Helper()
	if p, e := pin.Get(d); e != want || p != (pin.Pin{}) {
		t.Errorf("%s: Get: %v, %v; not %v", name, p, e, want)
	}
}

// P22.1

func TestWhichMayBe(t *testing.T) {
	if pin.MaxSerial != m40 {
		t.Error("the bound")
	}
	for p := range edges() {
		if e := pin.Check(p); e != api.OK {
			t.Error(p, e)
		}
	}
	for room := 1; room <= 4096; room++ {
		for _, count := range []int{0, 1, room - 1, room} {
			if e := pin.Check(pin.Pin{Serial: 1, Count: count, Room: room}); e != api.OK {
				t.Error(count, room, e)
			}
		}
	}
}

func TestWhichMayNotBe(t *testing.T) {
	for _, p := range wrong() {
		if e := pin.Check(p); e != api.ErrRange {
			t.Error(p, e)
		}
	}
	for room := 1; room <= 4096; room++ {
		if e := pin.Check(pin.Pin{Serial: 1, Count: room + 1, Room: room}); e != api.ErrRange {
			t.Error(room, e)
		}
	}
}

// P22.2, and the bytes and the places of P22.1

func TestTheDocumentsExample(t *testing.T) {
	d := used(t, 2)
	puts(t, "4", d, plain(4), "\x04\x09\x01\x02\x00\x07")
	puts(t, "5", d, plain(5), "\x05\x09\x01\x02\x00\x07")
	tells(t, "both", d, plain(5))
	if l := all(t, d); l[0] != sealed("\x04\x09\x01\x02\x00\x07") || l[1] != sealed("\x05\x09\x01\x02\x00\x07") {
		t.Error(l)
	}
}

// TestPut: upon disks that are blank, and upon such that aren't, in their own places alone.
func TestPut(t *testing.T) {
	for p, b := range edges() {
		for _, n := range []int{2, 3, 42, 4096} {
			name := fmt.Sprint(p, ", ", n, " sectors")
			d := used(t, n)
			puts(t, name, d, p, b)
			tells(t, name, d, p)
			if d.Writes() != n+2 {
				t.Error(name, d.Writes())
			}
			blank, _ := disk.New(n)
			puts(t, name+", blank", blank, p, b)
			tells(t, name+", blank", blank, p)
			if blank.Writes() != 1 {
				t.Error(name, "blank", blank.Writes())
			}
			puts(t, name+", once more", d, p, b)
			tells(t, name+", once more", d, p)
		}
	}
}

// TestPutInAnyOrder: whatever the serials of the pins that are there.
func TestPutInAnyOrder(t *testing.T) {
	for p, b := range edges() {
		for q, c := range edges() {
			name := fmt.Sprint(p, ", then ", q)
			d := used(t, 2)
			puts(t, name, d, p, b)
			puts(t, name, d, q, c)
			want := q
			if p.Serial%2 != q.Serial%2 && p.Serial > q.Serial {
				want = p
			}
			tells(t, name, d, want)
		}
	}
}

func TestPutOfWhatMayNotBe(t *testing.T) {
	for _, p := range wrong() {
		name := fmt.Sprint(p)
		d := used(t, 3)
		puts(t, name, d, plain(4), "\x04\x09\x01\x02\x00\x07")
		for _, b := range []int{0, 1} {
			d.Break(b)
			stays(t, name, d, func() {
				if e := pin.Put(d, p); e != api.ErrRange {
					t.Error(name, e)
				}
			})
		}
		tells(t, name, d, plain(4))
		fail(t, d)
		if e := pin.Put(d, p); e != api.ErrDown {
			t.Error(name, "down", e)
		}
	}
}

func TestSmallDisks(t *testing.T) {
	for _, s := range []api.Sector{{}, sealed("\x04\x09\x01\x02\x00\x07"), sealed("\x05\x09\x01\x02\x00\x07"), other(0)} {
		d := laid(t, s)
		stays(t, "one sector", d, func() {
			none(t, "one sector", d, api.ErrRange)
			for _, p := range append(wrong(), plain(1), plain(2), plain(4), plain(6)) {
				if e := pin.Put(d, p); e != api.ErrRange {
					t.Error(p, e)
				}
			}
		})
		fail(t, d)
		none(t, "one sector, down", d, api.ErrDown)
		if e := pin.Put(d, plain(2)); e != api.ErrDown {
			t.Error("down", e)
		}
	}
}

func TestWhileDown(t *testing.T) {
	d := used(t, 2)
	puts(t, "4", d, plain(4), "\x04\x09\x01\x02\x00\x07")
	fail(t, d)
	pending, writes := d.Pending(), d.Writes()
	none(t, "down", d, api.ErrDown)
	for _, p := range []pin.Pin{plain(4), plain(5), {}} {
		if e := pin.Put(d, p); e != api.ErrDown {
			t.Error(p, e)
		}
	}
	if d.Pending() != pending || d.Writes() != writes {
		t.Error("written while down")
	}
	d.Crash()
	tells(t, "up again", d, plain(4))
}

// P22.3

// TestGetOfOne: at its own place, and at that of the others.
func TestGetOfOne(t *testing.T) {
	for p, b := range edges() {
		for at := range 2 {
			for _, beside := range []api.Sector{{}, other(3), {0: 1}, sealed(b[:5]), sealed("")} {
				l := []api.Sector{beside, beside, sealed(b)}
				l[at] = sealed(b)
				d := laid(t, l...)
				if at == p.Serial%2 {
					tells(t, fmt.Sprint(p), d, p)
				} else {
					stays(t, fmt.Sprint(p), d, func() { none(t, fmt.Sprint(p, " at ", at), d, api.ErrNone) })
				}
			}
		}
		d := laid(t, api.Sector{}, api.Sector{}, sealed(b), sealed(b))
		none(t, fmt.Sprint(p, " behind"), d, api.ErrNone)
	}
}

// TestGetOfTwo: each two, at each two places; what isn't at its place doesn't count.
func TestGetOfTwo(t *testing.T) {
	for p, b := range edges() {
		for q, c := range edges() {
			var want pin.Pin
			if p.Serial%2 == 0 {
				want = p
			}
			if q.Serial%2 == 1 && q.Serial > want.Serial {
				want = q
			}
			d := laid(t, sealed(b), sealed(c))
			if name := fmt.Sprint(p, ", ", q); want == (pin.Pin{}) {
				none(t, name, d, api.ErrNone)
			} else {
				tells(t, name, d, want)
			}
		}
	}
}

// noPins are bytes of no pin; most of them begin as those of one do whose place it is.
func noPins(at int) map[string]string {
	x, more := string([]byte{byte(4 + at)}), string([]byte{byte(132 + at)})
	beyond := string([]byte{byte(130 - at)})
	return map[string]string{
		"none":                        "",
		"five numbers":                x + "\x09\x01\x02\x00",
		"seven numbers":               x + "\x09\x01\x02\x00\x07\x00",
		"many numbers":                x + "\x09\x01\x02\x00\x07" + "\x01\x01\x01\x01\x01\x01\x01\x01\x01",
		"the last one ends":           x + "\x09\x01\x02\x00\x87",
		"a number in another form":    more + "\x00\x09\x01\x02\x00\x07",
		"the Lot in another form":     x + "\x89\x00\x01\x02\x00\x07",
		"the Wal in another form":     x + "\x09\x01\x02\x80\x00\x07",
		"the Room in another form":    x + "\x09\x01\x02\x00\x87\x00",
		"a Serial of 0":               "\x00\x09\x01\x02\x00\x07",
		"a Serial above 2^40":         beyond + "\x80\x80\x80\x80\x20\x09\x01\x02\x00\x07",
		"a Serial of 2^63 and 4":      more + "\x80\x80\x80\x80\x80\x80\x80\x80\x01\x09\x01\x02\x00\x07",
		"a Serial of 2^64 and 4":      more + "\x80\x80\x80\x80\x80\x80\x80\x80\x02\x09\x01\x02\x00\x07",
		"a Serial of 2^64 - 2":        "\xfe\xff\xff\xff\xff\xff\xff\xff\xff\x01\x09\x01\x02\x00\x07",
		"a Lot above 2^40":            x + "\x81\x80\x80\x80\x80\x20\x01\x02\x00\x07",
		"a Lot of 2^64 - 1":           x + "\xff\xff\xff\xff\xff\xff\xff\xff\xff\x01\x01\x02\x00\x07",
		"a Lot of 2^63":               x + "\x80\x80\x80\x80\x80\x80\x80\x80\x80\x01\x01\x02\x00\x07",
		"a Leaf of 2":                 x + "\x09\x02\x02\x00\x07",
		"a Leaf of 2^64 - 1":          x + "\x09\xff\xff\xff\xff\xff\xff\xff\xff\xff\x01\x02\x00\x07",
		"a Count above Room":          x + "\x09\x01\x08\x00\x07",
		"a Count of 2^64 - 1":         x + "\x09\x01\xff\xff\xff\xff\xff\xff\xff\xff\xff\x01\x00\x07",
		"a Wal of 2":                  x + "\x09\x01\x02\x02\x07",
		"a Wal of 2^64 - 1":           x + "\x09\x01\x02\xff\xff\xff\xff\xff\xff\xff\xff\xff\x01\x07",
		"a Room of 0":                 x + "\x09\x01\x00\x00\x00",
		"a Room of 4097":              x + "\x09\x01\x02\x00\x81\x20",
		"a Room of 2^64 - 1":          x + "\x09\x01\x02\x00\xff\xff\xff\xff\xff\xff\xff\xff\xff\x01",
		"noughts":                     "\x00\x00\x00\x00\x00\x00",
		"words":                       "no pin",
		"all that a sector can take":  string(slices.Repeat([]byte{4}, 61)),
		"the numbers the other way":   "\x07\x00\x02\x01\x09\x04",
		"a text of a pin":             "\x06\x04\x09\x01\x02\x00\x07",
		"a Count of all, and no Room": x + "\x09\x01\x07\x00\x00",
	}
}

// TestWhatIsNoPin: alone, and beside one that is, whose serial is less.
func TestWhatIsNoPin(t *testing.T) {
	for at := range 2 {
		for name, b := range noPins(at) {
			l := []api.Sector{{}, {}}
			l[at] = sealed(b)
			none(t, name, laid(t, l...), api.ErrNone)
			l[1-at] = sealed(string([]byte{byte(1 + at)}) + "\x09\x01\x02\x00\x07")
			tells(t, name, laid(t, l...), plain(1+at))
		}
	}
}

// TestWhatIsNotWhole: a pin's sector with a byte that is another one.
func TestWhatIsNotWhole(t *testing.T) {
	whole := sealed("\x04\x09\x01\x02\x00\x07")
	for at := range 64 {
		for _, x := range []byte{0, 1, 2, 3, 5, 7, 64, 128, 255} {
			s := whole
			s[at] = x
			d := laid(t, s, sealed("\x01\x00\x00\x00\x00\x01"))
			p, e := pin.Get(d)
			// Only its six numbers can be others.
			if s != whole && (at < 2 || at > 7) && (e != api.OK || p != pin.Pin{Serial: 1, Room: 1}) {
				t.Error(at, x, p, e)
			}
			if s == whole && (e != api.OK || p != plain(4)) {
				t.Error("whole", p, e)
			}
		}
	}
}

// TestGetReadsWhatIsPending: what was written is told at once, whether or not it is for good.
func TestGetReadsWhatIsPending(t *testing.T) {
	d := laid(t, sealed("\x04\x09\x01\x02\x00\x07"), api.Sector{})
	if e := d.Write(1, sealed("\x05\x09\x01\x02\x00\x07")); e != api.OK {
		t.Fatal(e)
	}
	tells(t, "pending", d, plain(5))
	d.Crash()
	tells(t, "lost", d, plain(4))
}
