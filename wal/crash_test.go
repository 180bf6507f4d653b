package wal_test

import (
	"fmt"
	"slices"
	"testing"

	"moiety/api"
	"moiety/disk"
	"moiety/lot"
	"moiety/roll"
)

// P20.3

// whole: whether of each of so many writes all is kept.
func whole(kept []int, n int) bool {
	return n <= len(kept) && !slices.ContainsFunc(kept[:n], func(k int) bool { return k < 64 })
}

// crashes: that of a disk upon which a Put of the last of some lots didn't come to its end, an Open finds those ahead of it, and it, if all of it was kept; and that a Put goes on behind them.
func crashes(t *testing.T, d *disk.Disk, a roll.Area, from int, lots []api.Lot, kept []int) {
	t.Helper()
	name := fmt.Sprint(len(lots), " lots, kept ", kept)
	c := d.Clone()
	c.Crash(kept...)
	last := len(lots) - 1
	want := lots[:last]
	if whole(kept[:min(len(kept), d.Pending())], need(lots[last])) {
		want = lots
	}
	x := open(t, name, c, a, from, want...)
	more := lotOf(x.Next(), 0)
	puts(t, name, c, x, more)
	c.Crash()
	open(t, name, c, a, from, append(slices.Clone(want), more)...)
}

// down: a disk upon which all lots were put, but the last one, at one of whose writes it went down.
func down(t *testing.T, a roll.Area, from int, lots []api.Lot, at int) *disk.Disk {
	t.Helper()
	name := fmt.Sprint(len(lots), " lots, write ", at)
	d := laid(t, a.From+a.Len, a)
	x := open(t, name, d, a, from)
	last := len(lots) - 1
	puts(t, name, d, x, lots[:last]...)
	next, left := x.Next(), x.Left()
	d.Break(at)
	if e := x.Put(lots[last]); e != api.ErrDown || !d.Down() || d.Pending() != at {
		t.Fatalf("%s: %v, %d pending", name, e, d.Pending())
	}
	if x.Next() != next || x.Left() != left {
		t.Errorf("%s: Next %d, Left %d", name, x.Next(), x.Left())
	}
	return d
}

// TestPutGoesDown: at each write, with each one torn, behind no lots and some.
func TestPutGoesDown(t *testing.T) {
	all := []api.Lot{lotOf(126, 1), small(127), lotOf(128, 3), created(129), lotOf(130, 0)}
	a := roll.Area{From: 2, Len: needs(all...) + 2}
	for n := range all {
		lots := all[:n+1]
		sectors := need(lots[n])
		for at := 1; at <= sectors; at++ {
			d := down(t, a, 126, lots, at)
			for torn := range at {
				for _, k := range []int{-1, 0, 1, 2, 3, 30, 62, 63, 64, 65} {
					kept := slices.Repeat([]int{64}, at)
					kept[torn] = k
					crashes(t, d, a, 126, lots, kept)
				}
				crashes(t, d, a, 126, lots, slices.Repeat([]int{64}, torn))
			}
			crashes(t, d, a, 126, lots, slices.Repeat([]int{64}, at+1))
		}
	}
}

// TestEachFront: of a lot of five sectors each row of those that are kept, torn, or lost.
func TestEachFront(t *testing.T) {
	lots := []api.Lot{small(9), lotOf(10, 3)}
	a := roll.Area{Len: 8}
	if need(lots[1]) != 5 {
		t.Fatal(need(lots[1]))
	}
	d := down(t, a, 9, lots, 5)
	some := []int{0, 20, 63, 64}
	for i := range 1 << 10 {
		var kept []int
		for at := range 5 {
			kept = append(kept, some[i>>(2*at)&3])
		}
		crashes(t, d, a, 9, lots, kept)
	}
}

// TestTheSyncGoesDown: all of a lot was written, and nothing synced.
func TestTheSyncGoesDown(t *testing.T) {
	for _, l := range []api.Lot{small(5), lotOf(5, 22)} {
		lots := []api.Lot{lotOf(4, 2), l}
		a := roll.Area{From: 1, Len: needs(lots...) + 1}
		d := laid(t, a.From+a.Len, a, lot.Bytes(lots[0]))
		open(t, "one", d, a, 4, lots[0])
		r, _, e := roll.Open(d, a)
		if e == api.OK {
			e = r.Append(lot.Bytes(l))
		}
		if e != api.OK || d.Pending() != need(l) {
			t.Fatal(e, d.Pending())
		}
		for n := range need(l) + 1 {
			crashes(t, d, a, 4, lots, slices.Repeat([]int{64}, n))
		}
	}
}

// chances: a row of numbers that is the same in each run.
func chances(seed uint64) func(int) int {
	return func(n int) int {
		seed ^= seed << 13
		seed ^= seed >> 7
		seed ^= seed << 17
		return int(seed % uint64(n))
	}
}

// TestRowsOfCrashes: logs whose disk goes down at whichever write, keeps some, and goes on.
func TestRowsOfCrashes(t *testing.T) {
	next := chances(88172645463325252)
	full, lost, kept := 0, 0, 0
	for i := range 200 {
		name := fmt.Sprint("log ", i)
		a := roll.Area{From: next(3), Len: 5 + next(400)}
		d := laid(t, a.From+a.Len+next(3), a)
		from := 1 + next(200)
		x := open(t, name, d, a, from)
		var want []api.Lot
		for range 40 {
			l := lotOf(x.Next(), next(1+next(22)))
			if next(4) == 0 {
				l = created(x.Next())
			}
			at := 1 + next(need(l)*3/2)
			d.Break(at)
			switch {
			case need(l) > x.Left():
				wont(t, name, d, x, l, api.ErrFull)
				full++
				continue
			case need(l) < at:
				puts(t, name, d, x, l)
				want = append(want, l)
				continue
			}
			if e := x.Put(l); e != api.ErrDown {
				t.Fatal(name, e)
			}
			k := slices.Repeat([]int{64}, at)
			if next(2) == 0 {
				k[next(at)] = next(70)
			}
			d.Crash(k...)
			if whole(k, need(l)) {
				want = append(want, l)
				kept++
			} else {
				lost++
			}
			x = open(t, name, d, a, from, want...)
		}
		open(t, name, d, a, from, want...)
	}
	if min(full, lost, kept) < 50 {
		t.Error("not of each kind", full, lost, kept)
	}
}
