package wal_test

import (
	"fmt"
	"math"
	"slices"
	"strings"
	"testing"

	"moiety/act"
	"moiety/api"
	"moiety/disk"
	"moiety/lot"
	"moiety/rec"
	"moiety/roll"
	"moiety/wal"
)

const m40 = 1 << 40

// long is a deal of 93 bytes.
func long() api.Deal {
	return api.Deal{Acts: []api.Act{{Kind: act.Put, Key: strings.Repeat("k", 24), S: strings.Repeat("s", 64)}}}
}

// lotOf: one of a Number, and of so many deals, which are long.
func lotOf(number, deals int) api.Lot {
	return api.Lot{Number: number, Deals: slices.Repeat([]api.Deal{long()}, deals)}
}

// small is a lot of one sector.
func small(number int) api.Lot {
	return api.Lot{Number: number, Deals: []api.Deal{{Acts: []api.Act{{Kind: act.Plus, Key: "a", N: int64(number)}}}}}
}

// created: a lot with a record, which has a list.
func created(number int) api.Lot {
	r := api.Record{Kind: rec.Set, Cap: 3, List: []api.Item{{Name: "p"}, {Name: "q"}}}
	return api.Lot{Number: number, Deals: []api.Deal{{Acts: []api.Act{{Kind: act.New, Key: "k", Make: r}}}}}
}

// need: how many sectors a lot has.
func need(l api.Lot) int { return max(1, (len(lot.Bytes(l))+59)/60) }

// needs: how many sectors some lots have.
func needs(l ...api.Lot) int {
	n := 0
	for _, x := range l {
		n += need(x)
	}
	return n
}

func blank(t *testing.T, sectors int) *disk.Disk {
	t.Helper()
	d, e := disk.New(sectors)
	if e != api.OK {
		t.Fatal(e)
	}
	return d
}

// laid: a disk of so many sectors, with these entries for good in an area, and with junk behind them, if there is room for it.
func laid(t *testing.T, sectors int, a roll.Area, entries ...[]byte) *disk.Disk {
	t.Helper()
	d := blank(t, sectors)
	r, _, e := roll.Open(d, a)
	for _, b := range entries {
		if e == api.OK {
			e = r.Append(b)
		}
	}
	for at := a.From + a.Len - r.Left() + 1; e == api.OK && at < a.From+a.Len; at++ {
		e = d.Write(at, api.Sector{byte(at + 1)})
	}
	if e == api.OK {
		e = d.Sync()
	}
	if e != api.OK {
		t.Fatal(e)
	}
	return d
}

// all: what is read of a disk.
func all(t *testing.T, d *disk.Disk) []api.Sector {
	t.Helper()
	l := make([]api.Sector, d.Len())
	for i := range l {
		var e api.Errno
		if l[i], e = d.Read(i); e != api.OK {
			t.Fatal(e)
		}
	}
	return l
}

// stays: that something that is done changes nothing of a disk.
func stays(t *testing.T, name string, d *disk.Disk, done func()) {
	t.Helper()
	before, pending, writes := all(t, d), d.Pending(), d.Writes()
	done()
	if !slices.Equal(all(t, d), before) || d.Pending() != pending || d.Writes() != writes {
		t.Errorf("%s: the disk was changed", name)
	}
}

// open: that a log can be opened, and has these lots.
func open(t *testing.T, name string, d *disk.Disk, a roll.Area, from int, want ...api.Lot) *wal.Log {
	t.Helper()
	x, l, e := wal.Open(d, a, from)
	if e != api.OK || x == nil {
		t.Fatalf("%s: Open: %v", name, e)
	}
	if !slices.EqualFunc(l, want, lot.Same) {
		t.Fatalf("%s: Open: %v, not %v", name, l, want)
	}
	if x.Next() != from+len(want) || x.Left() != a.Len-needs(want...) {
		t.Fatalf("%s: Next %d, Left %d, behind %d lots from %d on", name, x.Next(), x.Left(), len(want), from)
	}
	return x
}

// refused: that a log can't be opened.
func refused(t *testing.T, name string, d *disk.Disk, a roll.Area, from int, want api.Errno) {
	t.Helper()
	if x, l, e := wal.Open(d, a, from); e != want || x != nil || l != nil {
		t.Errorf("%s: %v, %v, %v; not %v", name, x, l, e, want)
	}
}

// puts: that these can be put, and are for good.
func puts(t *testing.T, name string, d *disk.Disk, x *wal.Log, l ...api.Lot) {
	t.Helper()
	for _, y := range l {
		next, left := x.Next(), x.Left()
		if e := x.Put(y); e != api.OK || x.Next() != next+1 || x.Left() != left-need(y) || d.Pending() != 0 {
			t.Fatalf("%s: Put of %d: %v, Next %d, Left %d of %d, %d pending", name, y.Number, e, x.Next(), x.Left(), left, d.Pending())
		}
	}
}

// wont: that a lot can't be put, and all is as it was.
func wont(t *testing.T, name string, d *disk.Disk, x *wal.Log, l api.Lot, want api.Errno) {
	t.Helper()
	next, left := x.Next(), x.Left()
	stays(t, name, d, func() {
		if e := x.Put(l); e != want {
			t.Errorf("%s: Put: %v, not %v", name, e, want)
		}
	})
	if x.Next() != next || x.Left() != left {
		t.Errorf("%s: Next %d, Left %d", name, x.Next(), x.Left())
	}
}

// fail: that a disk goes down now.
func fail(t *testing.T, d *disk.Disk) {
	t.Helper()
	s, _ := d.Read(0)
	d.Break(1)
	if e := d.Write(0, s); e != api.ErrDown {
		t.Fatal(e)
	}
}

// wrongNumbers: from where no log can be.
func wrongNumbers() []int {
	return []int{0, -1, -m40, math.MinInt, m40 + 1, m40 + 2, 2 * m40, 1<<41 + 1, math.MaxInt}
}

// P20.1

func TestTheDocumentsExample(t *testing.T) {
	d := blank(t, 3)
	if x := open(t, "blank", d, roll.Area{Len: 3}, 5); x.Next() != 5 || x.Left() != 3 {
		t.Error(x.Next(), x.Left())
	}
}

func TestFromWhichNumber(t *testing.T) {
	for _, from := range []int{1, 2, 127, 128, m40 - 1, m40} {
		name := fmt.Sprint("from ", from)
		d := blank(t, 9)
		a := roll.Area{From: 2, Len: 6}
		x := open(t, name, d, a, from)
		puts(t, name, d, x, small(from))
		d.Crash()
		open(t, name, d, a, from, small(from))
	}
	for _, from := range wrongNumbers() {
		for _, d := range []*disk.Disk{blank(t, 4), laid(t, 4, roll.Area{Len: 4}, lot.Bytes(small(1)))} {
			name := fmt.Sprint("from ", from)
			stays(t, name, d, func() {
				refused(t, name, d, roll.Area{Len: 4}, from, api.ErrRange)
				refused(t, name, d, roll.Area{From: 1, Len: 4}, from, api.ErrRange)
			})
			fail(t, d)
			refused(t, name+", down", d, roll.Area{Len: 4}, from, api.ErrRange)
		}
	}
}

func TestWrongAreas(t *testing.T) {
	for _, c := range [][2]int{{0, 0}, {0, 5}, {1, 4}, {4, 1}, {-1, 2}, {0, -1}, {math.MaxInt, math.MaxInt}, {math.MaxInt, 1}, {1, math.MaxInt}, {math.MinInt, math.MinInt}} {
		name, a := fmt.Sprint(c), roll.Area{From: c[0], Len: c[1]}
		d := laid(t, 4, roll.Area{Len: 4}, []byte("no lot"))
		stays(t, name, d, func() { refused(t, name, d, a, 1, api.ErrRange) })
		fail(t, d)
		refused(t, name+", down", d, a, 1, api.ErrDown)
	}
	d := laid(t, 4, roll.Area{Len: 4}, []byte("no lot"))
	fail(t, d)
	refused(t, "down", d, roll.Area{Len: 4}, 1, api.ErrDown)
}

// TestLotsAreFound: those that were put, and those whose bytes came to the area otherwise.
func TestLotsAreFound(t *testing.T) {
	want := []api.Lot{small(7), lotOf(8, 0), lotOf(9, 22), created(10), lotOf(11, 21), small(12)}
	a := roll.Area{From: 1, Len: 200}
	var entries [][]byte
	for n := range len(want) + 1 {
		name := fmt.Sprint(n, " lots")
		d := laid(t, 203, a, entries...)
		x := open(t, name, d, a, 7, want[:n]...)
		puts(t, name, d, x, want[n:]...)
		d.Crash()
		open(t, name, d, a, 7, want...)
		if n < len(want) {
			entries = append(entries, lot.Bytes(want[n]))
		}
	}
}

// TestOpenWipes: as layer 19's, what stands behind the lots.
func TestOpenWipes(t *testing.T) {
	d := laid(t, 6, roll.Area{From: 1, Len: 5}, lot.Bytes(small(3)))
	before := all(t, d)
	open(t, "junk behind it", d, roll.Area{From: 1, Len: 5}, 3, small(3))
	d.Crash()
	if l := all(t, d); !slices.Equal(l[:2], before[:2]) || !slices.Equal(l[2:], make([]api.Sector, 4)) || slices.Equal(l, before) {
		t.Error(l)
	}
}

// wrongEntries are no log from 4 on.
func wrongEntries() map[string][][]byte {
	four, five, six := lot.Bytes(small(4)), lot.Bytes(small(5)), lot.Bytes(small(6))
	return map[string][][]byte{
		"no bytes":                  {nil},
		"no bytes behind one":       {four, nil},
		"no lot":                    {[]byte("no lot")},
		"no lot behind two":         {four, five, {0}},
		"no lot between":            {four, {5, 0, 0}, six},
		"a byte more":               {append(slices.Clone(four), 0)},
		"a byte less":               {four[:len(four)-1]},
		"two in one":                {append(slices.Clone(four), five...)},
		"another form of a number":  {{0x84, 0, 0}},
		"a Number of 0":             {{0, 0}},
		"a Number beyond":           {{0x81, 0x80, 0x80, 0x80, 0x80, 0x20, 0}},
		"a deal of no acts":         {{4, 1, 0}},
		"an act of no kind":         {{4, 1, 1, 0, 0, 1, 'a'}},
		"one Number too low":        {lot.Bytes(small(3))},
		"too low, then right":       {lot.Bytes(small(3)), four},
		"one Number too high":       {five},
		"too high, of no deals":     {lot.Bytes(lotOf(5, 0))},
		"a Number twice":            {four, four},
		"a Number that lacks":       {four, six},
		"Numbers that fall":         {four, lot.Bytes(small(3))},
		"two that are changed":      {five, four},
		"the third one too high":    {four, five, lot.Bytes(small(7))},
		"the third one once more":   {four, five, five},
		"a Number of 2^40 behind 4": {four, lot.Bytes(small(m40))},
	}
}

// TestNoLots: also where something stands behind the entries, which stays; but the errors of a roll's Open come first.
func TestNoLots(t *testing.T) {
	a := roll.Area{From: 1, Len: 9}
	for name, entries := range wrongEntries() {
		d := laid(t, 11, a, entries...)
		stays(t, name, d, func() { refused(t, name, d, a, 4, api.ErrForm) })
		if d.Down() {
			t.Error(name, "down")
		}
		c := d.Clone()
		c.Break(2)
		refused(t, name+", going down", c, a, 4, api.ErrDown)
		if !c.Down() || c.Pending() != 2 {
			t.Error(name, "not down", c.Pending())
		}
		refused(t, name+", down", c, a, 4, api.ErrDown)
		c.Crash()
		d.Crash()
		if !slices.Equal(all(t, c), all(t, d)) {
			t.Error(name, "crashed")
		}
	}
}

// TestOnlyFromItsNumber: a log is one from a single number on alone, but a blank one.
func TestOnlyFromItsNumber(t *testing.T) {
	for _, first := range []int{1, 2, 9, m40 - 1, m40} {
		var entries [][]byte
		var want []api.Lot
		for n := first; n <= min(first+1, m40); n++ {
			entries, want = append(entries, lot.Bytes(small(n))), append(want, small(n))
		}
		a := roll.Area{Len: 4}
		d := laid(t, 4, a, entries...)
		for _, from := range []int{1, 2, 3, 8, 9, 10, m40 - 2, m40 - 1, m40} {
			name := fmt.Sprint("the first is ", first, ", opened from ", from)
			if from != first {
				stays(t, name, d, func() { refused(t, name, d, a, from, api.ErrForm) })
			}
		}
		open(t, fmt.Sprint("from ", first), d, a, first, want...)
	}
	a := roll.Area{Len: 4}
	d := laid(t, 4, a, lot.Bytes(small(m40)), lot.Bytes(small(m40)))
	refused(t, "2^40 twice", d, a, m40, api.ErrForm)
	refused(t, "2^40 twice", d, a, m40-1, api.ErrForm)
}

// TestOpenGoesDown: at each write by which it wipes what stands behind the lots.
func TestOpenGoesDown(t *testing.T) {
	a := roll.Area{Len: 6}
	for n := 1; n <= 4; n++ {
		name := fmt.Sprint("write ", n)
		d := laid(t, 6, a, lot.Bytes(small(1)))
		d.Break(n)
		refused(t, name, d, a, 1, api.ErrDown)
		if d.Pending() != n || !d.Down() {
			t.Error(name, d.Pending())
		}
		d.Crash(64, 0, 30)
		open(t, name, d, a, 1, small(1))
	}
}

// P20.2

// TestAnotherNumber: whether or not the lot may be, whether there is room for it, and whether the disk is down.
func TestAnotherNumber(t *testing.T) {
	for _, from := range []int{1, 5, m40} {
		d := blank(t, 3)
		a := roll.Area{Len: 3}
		x := open(t, "blank", d, a, from)
		numbers := []int{from - 1, from + 1, from + 2, from - 2, from + m40, -from, 0, -1, m40 - 1, m40 + 1, math.MinInt, math.MaxInt}
		other := func(name string) {
			for _, n := range numbers {
				if n != x.Next() {
					for _, l := range []api.Lot{small(n), lotOf(n, 0), lotOf(n, 20), lotOf(n, 33), {Number: n, Deals: make([]api.Deal, 1)}} {
						wont(t, fmt.Sprint(name, ", ", n, " from ", from), d, x, l, api.ErrForm)
					}
				}
			}
		}
		other("blank")
		puts(t, "behind other ones", d, x, small(from))
		other("one")
		wont(t, "once more", d, x, small(from), api.ErrForm)
		if from < m40 {
			puts(t, "behind other ones", d, x, small(from+1))
			other("two")
		}
		fail(t, d)
		for _, n := range numbers {
			if e := x.Put(small(n)); n != x.Next() && e != api.ErrForm {
				t.Error("down", n, e)
			}
		}
	}
}

// wrongLots may not be; of each the error.
func wrongLots(number int) map[string]struct {
	l api.Lot
	e api.Errno
} {
	with := func(d ...api.Deal) api.Lot { return api.Lot{Number: number, Deals: d} }
	one := func(a api.Act) api.Deal { return api.Deal{Acts: []api.Act{a}} }
	two := api.Deal{Acts: append(slices.Clone(long().Acts), long().Acts...)}
	return map[string]struct {
		l api.Lot
		e api.Errno
	}{
		"33 deals":                 {lotOf(number, 33), api.ErrFull},
		"no acts":                  {with(api.Deal{}), api.ErrRange},
		"13 acts":                  {with(api.Deal{Acts: slices.Repeat(small(1).Deals[0].Acts, 13)}), api.ErrRange},
		"no kind":                  {with(long(), one(api.Act{Key: "a"})), api.ErrKind},
		"no key":                   {with(one(api.Act{Kind: act.Look})), api.ErrRange},
		"a field that it hasn't":   {with(one(api.Act{Kind: act.Look, Key: "a", N: 1})), api.ErrForm},
		"2048 bytes and some":      {lotOf(number, 23), api.ErrLong},
		"more than an entry takes": {with(slices.Repeat([]api.Deal{two}, 21)...), api.ErrLong},
		"far more than that":       {with(slices.Repeat([]api.Deal{two}, 32)...), api.ErrLong},
		"a record of no kind":      {with(one(api.Act{Kind: act.New, Key: "k", Make: api.Record{Kind: 99}})), api.ErrKind},
	}
}

func TestPutOfWhatMayNotBe(t *testing.T) {
	for name, c := range wrongLots(4) {
		if e, _ := lot.Check(c.l); e != c.e {
			t.Error(name, e)
		}
		d := blank(t, 60)
		a := roll.Area{Len: 60}
		x := open(t, name, d, a, 4)
		wont(t, name, d, x, c.l, c.e)
		puts(t, name, d, x, small(4))
		d.Crash()
		open(t, name, d, a, 4, small(4))
		// What may not be is told ahead of what is wrong with the area, or with the disk.
		d = blank(t, 1)
		x = open(t, name, d, roll.Area{Len: 1}, 3)
		puts(t, name, d, x, small(3))
		wont(t, name+", full", d, x, c.l, c.e)
		fail(t, d)
		if e := x.Put(c.l); e != c.e {
			t.Errorf("%s, down: %v, not %v", name, e, c.e)
		}
	}
}

// TestTheLastNumber: behind the lot of 2^40 no one may be.
func TestTheLastNumber(t *testing.T) {
	d := blank(t, 9)
	a := roll.Area{Len: 9}
	x := open(t, "blank", d, a, m40-1)
	puts(t, "the last ones", d, x, small(m40-1), small(m40))
	if x.Next() != m40+1 {
		t.Error(x.Next())
	}
	wont(t, "one more", d, x, small(m40+1), api.ErrRange)
	wont(t, "the last one", d, x, small(m40), api.ErrForm)
	open(t, "once more", d, a, m40-1, small(m40-1), small(m40))
}

// TestTheGreatest: a lot of 2048 bytes, which just fits, or doesn't.
func TestTheGreatest(t *testing.T) {
	if n := len(lot.Bytes(lotOf(4, 22))); n != 2048 {
		t.Fatal(n)
	}
	a := roll.Area{Len: 36}
	d := blank(t, 36)
	x := open(t, "blank", d, a, 4)
	puts(t, "2048 bytes", d, x, lotOf(4, 22))
	wont(t, "two sectors", d, x, lotOf(5, 1), api.ErrFull)
	wont(t, "35 sectors", d, x, lotOf(5, 22), api.ErrFull)
	puts(t, "one sector", d, x, small(5))
	wont(t, "no deals", d, x, lotOf(6, 0), api.ErrFull)
	d.Crash()
	x = open(t, "full", d, a, 4, lotOf(4, 22), small(5))
	wont(t, "no deals", d, x, lotOf(6, 0), api.ErrFull)
	fail(t, d)
	if e := x.Put(lotOf(6, 0)); e != api.ErrDown {
		t.Error("full, and down", e)
	}
}

func TestPutWhileDown(t *testing.T) {
	d := blank(t, 9)
	x := open(t, "blank", d, roll.Area{Len: 9}, 4)
	puts(t, "one", d, x, small(4))
	fail(t, d)
	pending, writes := d.Pending(), d.Writes()
	for _, l := range []api.Lot{small(5), lotOf(5, 0), lotOf(5, 22)} {
		if e := x.Put(l); e != api.ErrDown {
			t.Error(e)
		}
	}
	if d.Pending() != pending || d.Writes() != writes || x.Next() != 5 || x.Left() != 8 {
		t.Error(d.Pending(), d.Writes(), x.Next(), x.Left())
	}
}

// TestPutIsForGood: behind each one a disk that lost all that was pending has it.
func TestPutIsForGood(t *testing.T) {
	d := blank(t, 200)
	a := roll.Area{From: 3, Len: 190}
	x := open(t, "blank", d, a, 126)
	var want []api.Lot
	for i := range 22 {
		l := lotOf(126+i, i)
		if i%3 == 0 {
			l = created(126 + i)
		}
		if need(l) > x.Left() {
			break
		}
		puts(t, "one more", d, x, l)
		want = append(want, l)
		c := d.Clone()
		c.Crash()
		open(t, fmt.Sprint(i, " crashed"), c, a, 126, want...)
	}
	if len(want) < 12 {
		t.Error("too few", len(want))
	}
}

// P2

func TestPutLeavesItsLot(t *testing.T) {
	d := blank(t, 9)
	a := roll.Area{Len: 9}
	x := open(t, "blank", d, a, 4)
	l := created(4)
	puts(t, "one", d, x, l)
	if !lot.Same(l, created(4)) {
		t.Error("changed", l)
	}
	l.Deals[0].Acts[0].Make.List[0].Name = "x"
	l.Deals[0].Acts[0].Key = "y"
	open(t, "kept", d, a, 4, created(4))
}

func TestAnswersAreNewMemory(t *testing.T) {
	a := roll.Area{Len: 9}
	d := laid(t, 9, a, lot.Bytes(created(4)), lot.Bytes(small(5)))
	x, one, _ := wal.Open(d, a, 4)
	_, two, _ := wal.Open(d, a, 4)
	one[0].Deals[0].Acts[0].Make.List[0].Name = "x"
	one[0].Deals[0].Acts[0].Key = "y"
	one[1].Deals[0] = api.Deal{}
	one[1].Number = 9
	if !slices.EqualFunc(two, []api.Lot{created(4), small(5)}, lot.Same) {
		t.Error("two answers share memory", two)
	}
	if x.Next() != 6 {
		t.Error("kept", x.Next())
	}
	open(t, "the disk", d, a, 4, created(4), small(5))
}
