package disk_test

import (
	"fmt"
	"math"
	"slices"
	"testing"

	"moiety/api"
	"moiety/disk"
)

// of: a sector all of whose bytes are one.
func of(b byte) api.Sector {
	var s api.Sector
	for i := range s {
		s[i] = b
	}
	return s
}

// rising: a sector whose bytes are all others.
func rising(from byte) api.Sector {
	var s api.Sector
	for i := range s {
		s[i] = from + byte(i)
	}
	return s
}

// torn: a sector of the first bytes of one, and of the others of another one.
func torn(front, behind api.Sector, n int) api.Sector {
	var s api.Sector
	for i := range s {
		if s[i] = behind[i]; i < n {
			s[i] = front[i]
		}
	}
	return s
}

// fresh: a disk of so many sectors.
func fresh(t *testing.T, sectors int) *disk.Disk {
	t.Helper()
	d, e := disk.New(sectors)
	if e != api.OK || d == nil {
		t.Fatalf("New(%d): %v, %v", sectors, d, e)
	}
	return d
}

// write: that a sector can be written.
func write(t *testing.T, d *disk.Disk, at int, s api.Sector) {
	t.Helper()
	if e := d.Write(at, s); e != api.OK {
		t.Fatalf("Write(%d): %v", at, e)
	}
}

// sync: that it can be synced, and that nothing is pending then.
func sync(t *testing.T, d *disk.Disk) {
	t.Helper()
	if e := d.Sync(); e != api.OK || d.Pending() != 0 {
		t.Fatalf("Sync: %v, %d pending", e, d.Pending())
	}
}

// has: that just these sectors are read.
func has(t *testing.T, name string, d *disk.Disk, want ...api.Sector) {
	t.Helper()
	if d.Len() != len(want) {
		t.Fatalf("%s: %d sectors, not %d", name, d.Len(), len(want))
	}
	for at, w := range want {
		if s, e := d.Read(at); e != api.OK || s != w {
			t.Errorf("%s: sector %d is %v, %v; not %v", name, at, s, e, w)
		}
	}
}

// counts: how many writes are pending, how many there were, and whether it is down.
func counts(t *testing.T, name string, d *disk.Disk, pending, writes int, down bool) {
	t.Helper()
	if d.Pending() != pending || d.Writes() != writes || d.Down() != down {
		t.Errorf("%s: %d pending, %d writes, down: %v; not %d, %d, %v", name, d.Pending(), d.Writes(), d.Down(), pending, writes, down)
	}
}

// beyond: numbers of sectors that a disk of so many hasn't.
func beyond(sectors int) []int {
	return []int{math.MinInt, -sectors, -2, -1, sectors, sectors + 1, 2 * sectors, 4096, math.MaxInt}
}

// dead: that a disk that is down does nothing, whichever sector it is.
func dead(t *testing.T, name string, d *disk.Disk) {
	t.Helper()
	pending, writes := d.Pending(), d.Writes()
	for _, at := range append(beyond(d.Len()), 0, d.Len()-1) {
		if s, e := d.Read(at); e != api.ErrDown || s != (api.Sector{}) {
			t.Errorf("%s: Read(%d): %v, %v", name, at, s, e)
		}
		if e := d.Write(at, of(9)); e != api.ErrDown {
			t.Errorf("%s: Write(%d): %v", name, at, e)
		}
	}
	if e := d.Sync(); e != api.ErrDown {
		t.Errorf("%s: Sync: %v", name, e)
	}
	counts(t, name, d, pending, writes, true)
}

// P17.1

func TestHowManySectors(t *testing.T) {
	for _, n := range []int{0, -1, -4096, math.MinInt, 4097, 8192, math.MaxInt} {
		if d, e := disk.New(n); e != api.ErrRange || d != nil {
			t.Errorf("New(%d): %v, %v", n, d, e)
		}
	}
	for _, n := range []int{1, 2, 64, 4095, 4096} {
		d := fresh(t, n)
		has(t, "fresh", d, make([]api.Sector, n)...)
		counts(t, "fresh", d, 0, 0, false)
		write(t, d, n-1, of(7))
		if s, e := d.Read(n - 1); e != api.OK || s != of(7) {
			t.Errorf("the last one of %d: %v, %v", n, s, e)
		}
	}
	if disk.MaxSectors != 4096 || disk.Size != 64 {
		t.Error("the bounds")
	}
}

func TestSectorsThatThereAreNot(t *testing.T) {
	for _, n := range []int{1, 3, 4095} {
		d := fresh(t, n)
		write(t, d, n-1, of(1))
		for _, at := range beyond(n) {
			if s, e := d.Read(at); e != api.ErrRange || s != (api.Sector{}) {
				t.Errorf("Read(%d) of %d: %v, %v", at, n, s, e)
			}
			if e := d.Write(at, of(2)); e != api.ErrRange {
				t.Errorf("Write(%d) of %d: %v", at, n, e)
			}
		}
		counts(t, "beyond", d, 1, 1, false)
		want := make([]api.Sector, n)
		want[n-1] = of(1)
		has(t, "beyond", d, want...)
	}
	d := fresh(t, 4096)
	if _, e := d.Read(4096); e != api.ErrRange || d.Write(4096, of(1)) != api.ErrRange || d.Write(-1, of(1)) != api.ErrRange {
		t.Error("beyond the greatest one")
	}
}

func TestTheLastWriteIsRead(t *testing.T) {
	d := fresh(t, 4)
	write(t, d, 0, rising(3))
	write(t, d, 3, of(255))
	write(t, d, 2, of(4))
	has(t, "written", d, rising(3), api.Sector{}, of(4), of(255))
	write(t, d, 2, rising(200))
	write(t, d, 0, api.Sector{})
	want := []api.Sector{{}, {}, rising(200), of(255)}
	has(t, "written twice", d, want...)
	sync(t, d)
	has(t, "synced", d, want...)
	write(t, d, 3, api.Sector{63: 1})
	has(t, "written behind a Sync", d, api.Sector{}, api.Sector{}, rising(200), api.Sector{63: 1})
}

// TestEachSector: each has what was written to it, not to another one.
func TestEachSector(t *testing.T) {
	const n = 4096
	d := fresh(t, n)
	var want []api.Sector
	for at := range n {
		want = append(want, api.Sector{byte(at), byte(at >> 8), 63: byte(at)})
	}
	for i := range n {
		at := i * 1367 % n
		write(t, d, at, want[at])
	}
	has(t, "pending", d, want...)
	counts(t, "pending", d, n, n, false)
	sync(t, d)
	d.Crash()
	has(t, "for good", d, want...)
	counts(t, "for good", d, 0, n, false)
}

func TestPendingAndWrites(t *testing.T) {
	d := fresh(t, 2)
	for i := range 5 {
		write(t, d, 1, of(byte(i)))
		counts(t, "written", d, i+1, i+1, false)
	}
	sync(t, d)
	counts(t, "synced", d, 0, 5, false)
	sync(t, d)
	counts(t, "synced twice", d, 0, 5, false)
	write(t, d, 0, of(1))
	counts(t, "one more", d, 1, 6, false)
	d.Crash(64)
	counts(t, "behind a crash", d, 0, 6, false)
	write(t, d, 0, of(1))
	write(t, d, 1, of(1))
	counts(t, "two more", d, 2, 8, false)
	d.Crash()
	counts(t, "behind one more crash", d, 0, 8, false)
}

// TestWritesOfTheSame: a write that changes nothing is one, too.
func TestWritesOfTheSame(t *testing.T) {
	d := fresh(t, 1)
	write(t, d, 0, api.Sector{})
	counts(t, "blank upon blank", d, 1, 1, false)
	write(t, d, 0, of(1))
	write(t, d, 0, of(1))
	counts(t, "the same upon the same", d, 3, 3, false)
	d.Read(0)
	counts(t, "a Read is none", d, 3, 3, false)
}

func TestSyncIsForGood(t *testing.T) {
	d := fresh(t, 3)
	write(t, d, 0, of(1))
	write(t, d, 2, of(2))
	write(t, d, 0, of(3))
	sync(t, d)
	want := []api.Sector{of(3), {}, of(2)}
	for range 3 {
		d.Crash()
		has(t, "crashed", d, want...)
	}
	d.Crash(0, 0, 0, 64, 64)
	has(t, "crashed by numbers of nothing", d, want...)
	sync(t, d)
	has(t, "synced behind it", d, want...)
}

func TestAllIsRefusedWhileDown(t *testing.T) {
	d := fresh(t, 2)
	write(t, d, 0, of(1))
	d.Break(1)
	if e := d.Write(1, of(2)); e != api.ErrDown {
		t.Error(e)
	}
	counts(t, "down", d, 2, 2, true)
	dead(t, "down", d)
	dead(t, "down still", d)
	if d.Len() != 2 {
		t.Error("Len while it is down")
	}
	d.Crash(64, 64, 64, 64)
	has(t, "nothing was written while it was down", d, of(1), of(2))
	counts(t, "up", d, 0, 2, false)
}

// P17.2

func TestBreakOfFewerThanOne(t *testing.T) {
	for _, n := range []int{0, -1, -64, math.MinInt} {
		d := fresh(t, 1)
		d.Break(n)
		for i := range 300 {
			write(t, d, 0, of(byte(i)))
		}
		counts(t, "never", d, 300, 300, false)
		sync(t, d)
		has(t, "never", d, of(43))
	}
}

func TestBreakAtEachWrite(t *testing.T) {
	for n := 1; n <= 40; n++ {
		for ahead := range 4 {
			d := fresh(t, 3)
			for range ahead {
				write(t, d, 0, of(1))
			}
			d.Break(n)
			counts(t, "ahead of it", d, ahead, ahead, false)
			for i := range n - 1 {
				write(t, d, i%3, of(2))
				counts(t, "ahead of it", d, ahead+i+1, ahead+i+1, false)
			}
			if e := d.Write(2, rising(1)); e != api.ErrDown {
				t.Errorf("write %d: %v", n, e)
			}
			counts(t, "down", d, ahead+n, ahead+n, true)
			dead(t, "down", d)
			d.Crash(slices.Repeat([]int{64}, ahead+n)...)
			if s, e := d.Read(2); e != api.OK || s != rising(1) {
				t.Errorf("write %d isn't pending: %v, %v", n, s, e)
			}
		}
	}
}

// TestBreakOfTheLastWrite: and of the one behind it.
func TestBreakOfTheLastWrite(t *testing.T) {
	for _, more := range []int{0, 1} {
		d := fresh(t, 1)
		d.Break(7 + more)
		for range 6 {
			write(t, d, 0, of(1))
		}
		if e := d.Write(0, of(2)); (e == api.ErrDown) != (more == 0) || (e == api.OK) != (more == 1) {
			t.Errorf("the last write, %d more: %v", more, e)
		}
		counts(t, "behind the last write", d, 7, 7, more == 0)
	}
	d := fresh(t, 1)
	d.Break(math.MaxInt)
	for range 100 {
		write(t, d, 0, of(1))
	}
	counts(t, "far away", d, 100, 100, false)
}

func TestOnlyWritesBreak(t *testing.T) {
	d := fresh(t, 2)
	d.Break(2)
	for range 5 {
		if _, e := d.Read(0); e != api.OK {
			t.Error("Read", e)
		}
		if e := d.Write(2, of(1)); e != api.ErrRange {
			t.Error("Write", e)
		}
		sync(t, d)
	}
	counts(t, "nothing written", d, 0, 0, false)
	write(t, d, 0, of(1))
	sync(t, d)
	if e := d.Write(-1, of(1)); e != api.ErrRange {
		t.Error("Write", e)
	}
	if e := d.Write(1, of(2)); e != api.ErrDown {
		t.Error("the second one", e)
	}
	counts(t, "down", d, 1, 2, true)
}

func TestTheLastBreakCounts(t *testing.T) {
	for _, c := range []struct{ one, written, two int }{{1, 0, 3}, {5, 0, 1}, {5, 0, 2}, {3, 2, 2}, {3, 1, 3}, {0, 4, 1}, {-1, 1, 4}, {2, 1, 1}, {2, 0, 2}} {
		name := fmt.Sprint(c)
		d := fresh(t, 1)
		d.Break(c.one)
		for range c.written {
			write(t, d, 0, of(1))
		}
		d.Break(c.two)
		counts(t, name, d, c.written, c.written, false)
		for range c.two - 1 {
			write(t, d, 0, of(1))
		}
		if e := d.Write(0, of(1)); e != api.ErrDown {
			t.Errorf("%s: %v", name, e)
		}
		counts(t, name, d, c.written+c.two, c.written+c.two, true)
	}
	for _, never := range []int{0, -3} {
		d := fresh(t, 1)
		d.Break(2)
		write(t, d, 0, of(1))
		d.Break(never)
		for range 9 {
			write(t, d, 0, of(1))
		}
		counts(t, "taken back", d, 10, 10, false)
	}
}

// TestBreakWhileDown: it is down all the same, and a crash forgets it.
func TestBreakWhileDown(t *testing.T) {
	for _, n := range []int{-1, 0, 1, 2, 9} {
		d := fresh(t, 1)
		d.Break(1)
		d.Write(0, of(1))
		d.Break(n)
		dead(t, "down", d)
		d.Crash()
		for range 12 {
			write(t, d, 0, of(2))
		}
		counts(t, "up", d, 12, 13, false)
	}
}

// P17.3

func TestTheDocumentsExample(t *testing.T) {
	d := fresh(t, 1)
	write(t, d, 0, of(1))
	d.Crash(3)
	has(t, "three ones, then noughts", d, api.Sector{1, 1, 1})
	counts(t, "three ones, then noughts", d, 0, 1, false)
}

// numbers: what may be handed to a Crash, and how many bytes it keeps.
func numbers() map[int]int {
	l := map[int]int{math.MinInt: 0, -64: 0, -1: 0, 65: 64, 128: 64, 256: 64, 257: 64, 1 << 32: 64, math.MaxInt: 64}
	for n := range 65 {
		l[n] = n
	}
	return l
}

func TestCrashKeepsFronts(t *testing.T) {
	for n, bytes := range numbers() {
		for _, good := range []api.Sector{{}, of(7), rising(100)} {
			for _, s := range []api.Sector{of(1), rising(50), {}} {
				d := fresh(t, 3)
				write(t, d, 1, good)
				sync(t, d)
				write(t, d, 1, s)
				d.Crash(n)
				has(t, fmt.Sprint("kept ", n), d, api.Sector{}, torn(s, good, bytes), api.Sector{})
				counts(t, fmt.Sprint("kept ", n), d, 0, 2, false)
			}
		}
	}
}

// TestEachWriteHasItsNumber: as the writes came, not as the sectors stand; numbers that lack are 0, and those too many are of nothing.
func TestEachWriteHasItsNumber(t *testing.T) {
	for _, c := range []struct {
		kept []int
		want [3]int
	}{
		{nil, [3]int{}},
		{[]int{}, [3]int{}},
		{[]int{64}, [3]int{64, 0, 0}},
		{[]int{0, 64}, [3]int{0, 64, 0}},
		{[]int{-1, 5}, [3]int{0, 5, 0}},
		{[]int{1, 2, 3}, [3]int{1, 2, 3}},
		{[]int{64, 0, 63}, [3]int{64, 0, 63}},
		{[]int{99, -9, 65}, [3]int{64, 0, 64}},
		{[]int{0, 0, 64}, [3]int{0, 0, 64}},
		{[]int{10, 20, 30, 64, 64, 64}, [3]int{10, 20, 30}},
		{[]int{0, 0, 0, 64}, [3]int{}},
	} {
		d := fresh(t, 4)
		writes := [3]api.Sector{of(1), rising(9), of(3)}
		for i, at := range []int{2, 0, 1} {
			write(t, d, at, writes[i])
		}
		d.Crash(c.kept...)
		has(t, fmt.Sprint(c.kept), d, torn(writes[1], api.Sector{}, c.want[1]), torn(writes[2], api.Sector{}, c.want[2]), torn(writes[0], api.Sector{}, c.want[0]), api.Sector{})
		counts(t, fmt.Sprint(c.kept), d, 0, 3, false)
	}
}

// TestWrittenTwice: of both writes of a sector something may be kept, the later one upon the earlier one.
func TestWrittenTwice(t *testing.T) {
	for one := range 65 {
		for two := range 65 {
			d := fresh(t, 1)
			write(t, d, 0, of(1))
			write(t, d, 0, rising(100))
			d.Crash(one, two)
			has(t, fmt.Sprint("kept ", one, " and ", two), d, torn(rising(100), torn(of(1), api.Sector{}, one), two))
		}
	}
}

// TestWrittenTwiceAndSyncedBetween: the first one is for good then, and has no number.
func TestWrittenTwiceAndSyncedBetween(t *testing.T) {
	for n, bytes := range numbers() {
		d := fresh(t, 2)
		write(t, d, 0, of(1))
		write(t, d, 1, of(2))
		sync(t, d)
		write(t, d, 0, rising(100))
		d.Crash(n, 64)
		has(t, fmt.Sprint("kept ", n), d, torn(rising(100), of(1), bytes), of(2))
	}
}

// TestCrashIsForGood: what a crash left is there for good, and what it lost is lost.
func TestCrashIsForGood(t *testing.T) {
	d := fresh(t, 2)
	write(t, d, 0, of(1))
	write(t, d, 1, of(2))
	d.Crash(5, 6)
	want := []api.Sector{torn(of(1), api.Sector{}, 5), torn(of(2), api.Sector{}, 6)}
	for range 3 {
		d.Crash(64, 64)
		has(t, "crashed again", d, want...)
	}
	sync(t, d)
	d.Crash()
	has(t, "synced", d, want...)
	write(t, d, 1, of(3))
	d.Crash(2)
	has(t, "one more write", d, want[0], torn(of(3), want[1], 2))
}

// TestCrashOfADiskThatIsNotDown: it won't go down any more.
func TestCrashOfADiskThatIsNotDown(t *testing.T) {
	for written := range 3 {
		d := fresh(t, 1)
		d.Break(3)
		for range written {
			write(t, d, 0, of(1))
		}
		d.Crash()
		has(t, "nothing is kept", d, api.Sector{})
		for range 20 {
			write(t, d, 0, of(2))
		}
		counts(t, "up", d, 20, 20+written, false)
		sync(t, d)
	}
}

// TestCrashOfADiskThatIsDown: the write by which it went down has a number, too; those that were refused behind it have none.
func TestCrashOfADiskThatIsDown(t *testing.T) {
	for n, bytes := range numbers() {
		d := fresh(t, 3)
		d.Break(2)
		write(t, d, 0, of(1))
		for i := range 3 {
			if e := d.Write(1+i%2, of(byte(2+i))); e != api.ErrDown {
				t.Error(e)
			}
		}
		d.Crash(64, n, 64, 64)
		has(t, fmt.Sprint("kept ", n), d, of(1), torn(of(2), api.Sector{}, bytes), api.Sector{})
		counts(t, fmt.Sprint("kept ", n), d, 0, 2, false)
		write(t, d, 2, of(9))
		sync(t, d)
		d.Crash()
		has(t, "up", d, of(1), torn(of(2), api.Sector{}, bytes), of(9))
		d.Break(1)
		if e := d.Write(0, of(3)); e != api.ErrDown {
			t.Error("it can go down again", e)
		}
	}
}

// TestManyAreLost: as many pending writes as a disk has sectors, and more.
func TestManyAreLost(t *testing.T) {
	const n = 5000
	d := fresh(t, 100)
	want := make([]api.Sector, 100)
	var kept []int
	for i := range n {
		s := rising(byte(i * 7))
		write(t, d, i%100, s)
		kept = append(kept, i*31%80-8)
		want[i%100] = torn(s, want[i%100], kept[i])
	}
	counts(t, "many", d, n, n, false)
	d.Crash(kept...)
	has(t, "many", d, want...)
	counts(t, "many", d, 0, n, false)
}

func TestCloneIsJustTheSame(t *testing.T) {
	d := fresh(t, 3)
	write(t, d, 0, of(1))
	sync(t, d)
	write(t, d, 0, of(2))
	write(t, d, 2, of(3))
	d.Break(2)
	write(t, d, 1, of(4))
	c := d.Clone()
	has(t, "clone", c, of(2), of(4), of(3))
	counts(t, "clone", c, 3, 4, false)
	if e := c.Write(1, of(5)); e != api.ErrDown {
		t.Error("the clone's Break", e)
	}
	counts(t, "clone", c, 4, 5, true)
	down := c.Clone()
	dead(t, "a clone that is down", down)
	counts(t, "a clone that is down", down, 4, 5, true)
	c.Crash(1, 2, 3, 4)
	has(t, "lost", c, torn(of(2), of(1), 1), torn(of(5), torn(of(4), api.Sector{}, 3), 4), torn(of(3), api.Sector{}, 2))
	down.Crash()
	has(t, "lost with nothing kept", down, of(1), api.Sector{}, api.Sector{})
	has(t, "the disk", d, of(2), of(4), of(3))
	counts(t, "the disk", d, 3, 4, false)
	if e := d.Write(1, of(6)); e != api.ErrDown {
		t.Error("the disk's Break", e)
	}
	dead(t, "the disk", d)
	d.Crash(64, 64, 64, 64)
	has(t, "the disk", d, of(2), of(6), of(3))
}

// TestCloneIsApart: whatever is done to one of both isn't done to the other one.
func TestCloneIsApart(t *testing.T) {
	for i, done := range []func(d *disk.Disk){
		func(d *disk.Disk) { d.Write(0, of(9)) },
		func(d *disk.Disk) { d.Write(1, of(9)); d.Sync() },
		func(d *disk.Disk) { d.Sync() },
		func(d *disk.Disk) { d.Break(1) },
		func(d *disk.Disk) { d.Break(1); d.Write(0, of(9)) },
		func(d *disk.Disk) { d.Crash() },
		func(d *disk.Disk) { d.Crash(64, 64) },
		func(d *disk.Disk) { d.Crash(); d.Write(0, of(9)); d.Write(1, of(8)) },
	} {
		for _, swapped := range []bool{false, true} {
			name := fmt.Sprint("done ", i, ", to the clone: ", swapped)
			one := fresh(t, 2)
			write(t, one, 0, of(1))
			sync(t, one)
			write(t, one, 0, of(2))
			write(t, one, 1, of(3))
			two := one.Clone()
			if swapped {
				one, two = two, one
			}
			done(one)
			has(t, name, two, of(2), of(3))
			counts(t, name, two, 2, 3, false)
			write(t, two, 1, of(4))
			counts(t, name, two, 3, 4, false)
			two.Crash(4, 5, 6)
			has(t, name, two, torn(of(2), of(1), 4), torn(of(4), torn(of(3), api.Sector{}, 5), 6))
		}
	}
}

// TestBothWriteOn: pending writes of a disk and of its clone stand apart, also where there is spare room behind them.
func TestBothWriteOn(t *testing.T) {
	for n := range 20 {
		d := fresh(t, 2)
		for range n {
			write(t, d, 0, of(1))
		}
		c := d.Clone()
		write(t, d, 1, of(2))
		write(t, c, 1, of(3))
		write(t, d, 0, of(4))
		kept := slices.Repeat([]int{64}, n+2)
		d.Crash(kept...)
		c.Crash(kept...)
		has(t, "the disk", d, of(4), of(2))
		has(t, "the clone", c, torn(of(1), api.Sector{}, 64*min(n, 1)), of(3))
	}
}

// P2

func TestCrashLeavesItsNumbers(t *testing.T) {
	kept := []int{-3, 99, 5, 7, 8}
	d := fresh(t, 1)
	write(t, d, 0, of(1))
	write(t, d, 0, of(2))
	d.Crash(kept[:3]...)
	if !slices.Equal(kept, []int{-3, 99, 5, 7, 8}) {
		t.Error("changed", kept)
	}
	clear(kept)
	has(t, "kept", d, of(2))
}

// told is a disk, told once more: all that was written since it was blank, or since the last crash.
type told struct {
	began               []api.Sector
	writes              []entry
	forGood, ever, toGo int
	breaks, isDown      bool
}

type entry struct {
	at int
	s  api.Sector
}

// read: what a sector is behind the first writes.
func (x *told) read(at, behind int) api.Sector {
	s := x.began[at]
	for _, w := range x.writes[:behind] {
		if w.at == at {
			s = w.s
		}
	}
	return s
}

func (x *told) write(at int, s api.Sector) api.Errno {
	if x.isDown {
		return api.ErrDown
	}
	if at < 0 || at >= len(x.began) {
		return api.ErrRange
	}
	x.writes = append(x.writes, entry{at, s})
	x.ever++
	x.toGo--
	if x.breaks && x.toGo == 0 {
		x.isDown = true
		return api.ErrDown
	}
	return api.OK
}

func (x *told) crash(kept []int) {
	var left []api.Sector
	for at := range x.began {
		s := x.read(at, x.forGood)
		for i, w := range x.writes[x.forGood:] {
			if w.at == at && i < len(kept) {
				s = torn(w.s, s, kept[i])
			}
		}
		left = append(left, s)
	}
	*x = told{began: left, ever: x.ever}
}

func (x *told) clone() *told {
	y := *x
	y.began, y.writes = slices.Clone(x.began), slices.Clone(x.writes)
	return &y
}

// alike: that a disk is as it is told.
func (x *told) alike(t *testing.T, name string, d *disk.Disk) {
	t.Helper()
	counts(t, name, d, len(x.writes)-x.forGood, x.ever, x.isDown)
	for at := range x.began {
		s, e := d.Read(at)
		if x.isDown {
			if e != api.ErrDown || s != (api.Sector{}) {
				t.Fatalf("%s: Read(%d) while it is down: %v, %v", name, at, s, e)
			}
		} else if want := x.read(at, len(x.writes)); e != api.OK || s != want {
			t.Fatalf("%s: sector %d is %v, %v; not %v", name, at, s, e, want)
		}
	}
}

// chances: a row of numbers that is the same in each run.
func chances(seed uint64) func(int) int {
	return func(n int) int {
		seed ^= seed << 13
		seed ^= seed >> 7
		seed ^= seed << 17
		return int(seed % uint64(n))
	}
}

// do: one call, to a disk and as it is told.
func do(t *testing.T, name string, next func(int) int, d *disk.Disk, x *told) {
	t.Helper()
	switch next(12) {
	case 0:
		want := api.OK
		if x.isDown {
			want = api.ErrDown
		} else {
			x.forGood = len(x.writes)
		}
		if e := d.Sync(); e != want {
			t.Fatalf("%s: Sync: %v, not %v", name, e, want)
		}
	case 1:
		n := next(14) - 2
		d.Break(n)
		x.breaks, x.toGo = n > 0, n
	case 2:
		var kept []int
		for range next(12) {
			kept = append(kept, next(80)-8)
		}
		d.Crash(kept...)
		x.crash(kept)
	default:
		at, s := next(len(x.began)+2)-1, rising(byte(next(256)))
		want := x.write(at, s)
		if e := d.Write(at, s); e != want {
			t.Fatalf("%s: Write(%d): %v, not %v", name, at, e, want)
		}
	}
}

// TestRowsOfCalls: some disks and their clones, each held against how it is told, whichever one something is done to.
func TestRowsOfCalls(t *testing.T) {
	next := chances(88172645463325252)
	for row := range 60 {
		sectors := 1 + next(5)
		disks, tales := []*disk.Disk{fresh(t, sectors)}, []*told{{began: make([]api.Sector, sectors)}}
		for step := range 150 {
			name := fmt.Sprint("row ", row, ", step ", step)
			i := next(len(disks))
			do(t, name, next, disks[i], tales[i])
			if next(20) == 0 && len(disks) < 4 {
				disks, tales = append(disks, disks[i].Clone()), append(tales, tales[i].clone())
			}
			for i := range disks {
				tales[i].alike(t, name, disks[i])
			}
		}
	}
}
