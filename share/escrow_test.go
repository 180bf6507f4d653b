package share

import (
	"math"
	"slices"
	"testing"

	"moiety/act"
	"moiety/api"
	"moiety/rec"
	"moiety/rule"
)

// P7.3

func TestNewRefuses(t *testing.T) {
	for _, workers := range []int{math.MinInt, -1, 0, 9, 10, 1 << 32, math.MaxInt} {
		// Ahead of all that is wrong with the record.
		for _, r := range append(plain(), set(33)) {
			if e, code := New(r, workers); e != nil || code != api.ErrRange {
				t.Errorf("%+v for %d: %v, %v", r, workers, e, code)
			}
		}
	}
	for workers := 1; workers <= 8; workers++ {
		for _, w := range wrong() {
			if e, code := New(w.r, workers); e != nil || code != w.e {
				t.Errorf("%+v for %d: %v, %v", w.r, workers, e, code)
			}
		}
		for _, r := range []api.Record{{Kind: rec.Text}, {Kind: rec.Level, Real: 1}} {
			if e, code := New(r, workers); e != nil || code != api.ErrKind {
				t.Errorf("%+v for %d: %v, %v", r, workers, e, code)
			}
		}
	}
}

// of: the escrow of a record that has one.
func of(t *testing.T, r api.Record, workers int) *Escrow {
	t.Helper()
	e, code := New(r, workers)
	if e == nil || code != api.OK {
		t.Fatalf("%+v for %d: %v, %v", r, workers, e, code)
	}
	return e
}

// lefts: what each of so many workers may still take.
func lefts(e *Escrow, workers int) (ups, downs []uint64) {
	for w := range workers {
		up, down := e.Left(w)
		ups, downs = append(ups, up), append(downs, down)
	}
	return ups, downs
}

func TestDealtOut(t *testing.T) {
	const top63 = uint64(1) << 63
	for i, c := range []struct {
		r          api.Record
		workers    int
		ups, downs []uint64
	}{
		{purse(0, 5, 10), 1, []uint64{5}, []uint64{5}},
		{purse(0, 5, 10), 2, []uint64{3, 2}, []uint64{3, 2}},
		{purse(0, 5, 10), 3, []uint64{2, 2, 1}, []uint64{2, 2, 1}},
		{purse(0, 5, 10), 5, []uint64{1, 1, 1, 1, 1}, []uint64{1, 1, 1, 1, 1}},
		{purse(0, 5, 10), 8, []uint64{1, 1, 1, 1, 1, 0, 0, 0}, []uint64{1, 1, 1, 1, 1, 0, 0, 0}},
		{purse(-3, -1, 0), 2, []uint64{1, 0}, []uint64{1, 1}},
		{purse(4, 4, 4), 2, []uint64{0, 0}, []uint64{0, 0}},
		{purse(-m61, m61, m61), 1, []uint64{0}, []uint64{1 << 62}},
		{purse(-m61, -m61, m61), 8, slices.Repeat([]uint64{1 << 59}, 8), slices.Repeat([]uint64{0}, 8)},
		{purse(-m61, m61-1, m61), 3, []uint64{1, 0, 0}, slices.Repeat([]uint64{(1<<62 - 1) / 3}, 3)},
		{purse(-m61, m61, m61), 3, []uint64{0, 0, 0}, []uint64{1<<62/3 + 1, 1 << 62 / 3, 1 << 62 / 3}},
		{count(0), 1, []uint64{top63 - 1}, []uint64{top63}},
		{count(most), 1, []uint64{0}, []uint64{math.MaxUint64}},
		{count(least), 1, []uint64{math.MaxUint64}, []uint64{0}},
		{count(most), 2, []uint64{0, 0}, []uint64{top63, top63 - 1}},
		{count(least), 4, []uint64{1 << 62, 1 << 62, 1 << 62, 1<<62 - 1}, []uint64{0, 0, 0, 0}},
		{count(-1), 2, []uint64{1 << 62, 1 << 62}, []uint64{1 << 62, 1<<62 - 1}},
		{count(most - 1), 8, []uint64{1, 0, 0, 0, 0, 0, 0, 0}, append(slices.Repeat([]uint64{1 << 61}, 6), 1<<61-1, 1<<61-1)},
		{count(least + 9), 8, append(slices.Repeat([]uint64{1<<61 - 1}, 6), 1<<61-2, 1<<61-2), []uint64{2, 1, 1, 1, 1, 1, 1, 1}},
		{set(1), 1, []uint64{1}, []uint64{0}},
		{set(5, "a", "b"), 2, []uint64{2, 1}, []uint64{0, 0}},
		{set(2, "a", "b"), 2, []uint64{0, 0}, []uint64{0, 0}},
		{set(32), 8, slices.Repeat([]uint64{4}, 8), slices.Repeat([]uint64{0}, 8)},
		{set(32, "a"), 8, []uint64{4, 4, 4, 4, 4, 4, 4, 3}, slices.Repeat([]uint64{0}, 8)},
		{sum(5), 2, []uint64{0, 0}, []uint64{0, 0}},
		{peak(5), 2, []uint64{0, 0}, []uint64{0, 0}},
		{dip(5), 2, []uint64{0, 0}, []uint64{0, 0}},
		{top(5), 2, []uint64{0, 0}, []uint64{0, 0}},
	} {
		ups, downs := lefts(of(t, c.r, c.workers), c.workers)
		if !slices.Equal(ups, c.ups) || !slices.Equal(downs, c.downs) {
			t.Errorf("%d: %v, %v; not %v, %v", i, ups, downs, c.ups, c.downs)
		}
	}
}

// noWorkers: numbers that are none of so many workers'.
func noWorkers(workers int) []int {
	return []int{math.MinInt, -8, -1, workers, workers + 1, 8, 9, 1 << 32, math.MaxInt}
}

func TestLeftOfNoWorker(t *testing.T) {
	for workers := 1; workers <= 8; workers++ {
		e := of(t, count(0), workers)
		for _, w := range noWorkers(workers) {
			if up, down := e.Left(w); up != 0 || down != 0 {
				t.Errorf("%d of %d: %d, %d", w, workers, up, down)
			}
		}
	}
}

// P7.4

func TestDrawTakes(t *testing.T) {
	for i, c := range []struct {
		r        api.Record
		l        []api.Act
		up, down uint64 // what is left
	}{
		{purse(0, 5, 10), nil, 5, 5},
		{purse(0, 5, 10), []api.Act{byN(act.In, 0), byN(act.Out, 0)}, 5, 5},
		{purse(0, 5, 10), []api.Act{byN(act.In, 2)}, 3, 5},
		{purse(0, 5, 10), []api.Act{byN(act.Out, 2)}, 5, 3},
		// What comes in makes no room to go out.
		{purse(0, 5, 10), []api.Act{byN(act.In, 5), byN(act.Out, 4), byN(act.Out, 1)}, 0, 0},
		{purse(-m61, -m61, m61), []api.Act{byN(act.In, m61), byN(act.In, m61)}, 0, 0},
		{count(3), []api.Act{byN(act.Plus, 0)}, most - 3, 1<<63 + 3},
		{count(0), []api.Act{byN(act.Plus, most), byN(act.Plus, least)}, 0, 0},
		{count(0), []api.Act{byN(act.Plus, 5), byN(act.Plus, -7)}, most - 5, 1<<63 - 7},
		{count(most), []api.Act{byN(act.Plus, least), byN(act.Plus, -most)}, 0, 0},
		{count(least), []api.Act{byN(act.Plus, most), byN(act.Plus, most), byN(act.Plus, 1)}, 0, 0},
		{set(4, "b"), []api.Act{join("b"), join("b")}, 3, 0},
		// Each takes one, also of the same name.
		{set(4, "b"), []api.Act{join("a"), join("b"), join("a")}, 1, 0},
		{set(4, "b"), []api.Act{join(""), join("bb"), join("B")}, 0, 0},
		{sum(3), []api.Act{byN(act.Add, most), byN(act.Add, least), byN(act.Add, -1)}, 0, 0},
		{peak(3), []api.Act{byX(act.Raise, inf), byX(act.Raise, oneNaN)}, 0, 0},
		{dip(3), []api.Act{byX(act.Lower, -inf)}, 0, 0},
		{top(1, item(1, "a")), []api.Act{offer(2, "b"), offer(oneNaN, "")}, 0, 0},
	} {
		e := of(t, c.r, 1)
		code := e.Draw(0, c.l...)
		if up, down := e.Left(0); code != api.OK || up != c.up || down != c.down {
			t.Errorf("%d: %v, %d, %d; not %d, %d", i, code, up, down, c.up, c.down)
		}
	}
}

func TestDrawRefuses(t *testing.T) {
	in, out, plus := byN(act.In, 1), byN(act.Out, 1), byN(act.Plus, 1)
	for i, c := range []struct {
		r api.Record
		l []api.Act
		e api.Errno
	}{
		{purse(0, 5, 10), []api.Act{byN(act.In, 6)}, api.ErrOver},
		{purse(0, 5, 10), []api.Act{byN(act.In, 5), in}, api.ErrOver},
		{purse(0, 5, 10), []api.Act{byN(act.Out, 6)}, api.ErrLow},
		{purse(0, 5, 10), []api.Act{byN(act.Out, 5), out}, api.ErrLow},
		{purse(0, 5, 10), []api.Act{in, byN(act.Out, 6)}, api.ErrLow},
		{purse(0, 10, 10), []api.Act{out, in}, api.ErrOver},
		{purse(0, 0, 10), []api.Act{in, out}, api.ErrLow},
		{count(most), []api.Act{plus}, api.ErrOver},
		{count(most), []api.Act{byN(act.Plus, -1), plus}, api.ErrOver},
		{count(least), []api.Act{byN(act.Plus, -1)}, api.ErrLow},
		{count(least), []api.Act{plus, byN(act.Plus, -1)}, api.ErrLow},
		{count(0), []api.Act{byN(act.Plus, least), byN(act.Plus, -1)}, api.ErrLow},
		{count(-1), []api.Act{byN(act.Plus, least)}, api.ErrLow},
		{count(1), []api.Act{byN(act.Plus, most)}, api.ErrOver},
		{set(1, "b"), []api.Act{join("b"), join("a")}, api.ErrFull},
		{set(3, "b"), []api.Act{join("a"), join("a"), join("a")}, api.ErrFull},
		{set(2, "b"), []api.Act{join("b"), join("a"), join("c")}, api.ErrFull},
		// Check is ahead of ErrKind, and that ahead of what is too much.
		{purse(0, 5, 10), []api.Act{byN(act.In, -1)}, api.ErrRange},
		{purse(0, 5, 10), []api.Act{byN(act.Out, m61+1)}, api.ErrRange},
		{purse(0, 5, 10), []api.Act{byN(act.Enough, 1)}, api.ErrKind},
		{count(0), []api.Act{byN(act.In, -1)}, api.ErrRange},
		{count(most), []api.Act{byN(act.In, 1)}, api.ErrKind},
		{set(1, "b"), []api.Act{{Kind: act.Join, S: "a"}}, api.ErrRange},
		{set(1, "b"), []api.Act{join(long(17))}, api.ErrLong},
		{set(1, "b"), []api.Act{offer(1, "a")}, api.ErrKind},
		{set(1, "b"), []api.Act{{Kind: act.Leave, Key: "a", S: "b"}}, api.ErrKind},
		{peak(0), []api.Act{byX(act.Raise, otherNaN)}, api.ErrForm},
		{peak(0), []api.Act{byX(act.Lower, otherNaN)}, api.ErrForm},
		{sum(0), []api.Act{{Kind: act.Kinds, Key: "a"}}, api.ErrKind},
		{sum(0), []api.Act{{Kind: math.MinInt}}, api.ErrKind},
		{sum(0), []api.Act{{}}, api.ErrKind},
		// Act by act: what is wrong first is told.
		{purse(0, 5, 10), []api.Act{byN(act.In, 6), byN(act.In, -1)}, api.ErrOver},
		{purse(0, 5, 10), []api.Act{in, byN(act.In, -1), byN(act.In, 6)}, api.ErrRange},
		{purse(0, 5, 10), []api.Act{in, byN(act.Plus, 1), byN(act.Out, 6)}, api.ErrKind},
		{purse(0, 5, 10), []api.Act{byN(act.Out, 6), byN(act.In, 6)}, api.ErrLow},
	} {
		e := of(t, c.r, 1)
		up, down := e.Left(0)
		code := e.Draw(0, c.l...)
		if gotUp, gotDown := e.Left(0); code != c.e || gotUp != up || gotDown != down {
			t.Errorf("%d: %v, not %v; %d, %d of %d, %d", i, code, c.e, gotUp, gotDown, up, down)
		}
	}
}

// TestDrawByEveryKind: every kind of acts of an escrow of every kind of records.
func TestDrawByEveryKind(t *testing.T) {
	for kind, r := range plain() {
		e, code := New(r, 1)
		if code != api.OK {
			continue
		}
		for k, a := range fit() {
			want := api.ErrKind
			if slices.Contains(splitting[kind], k) {
				want = api.OK
			}
			if a.Kind == act.Join && kind == rec.Set {
				a.S = "a"
			}
			if got := e.Clone().Draw(0, a); got != want {
				t.Errorf("%s of %s: %v", act.Name(k), rec.Name(kind), got)
			}
		}
	}
}

func TestDrawOfNoWorker(t *testing.T) {
	for workers := 1; workers <= 8; workers++ {
		e := of(t, count(0), workers)
		ups, downs := lefts(e, workers)
		for _, w := range noWorkers(workers) {
			if w < workers && w >= 0 {
				continue
			}
			if e.Draw(w) != api.ErrRange || e.Draw(w, byN(act.Plus, 1)) != api.ErrRange || e.Draw(w, api.Act{}) != api.ErrRange {
				t.Errorf("%d of %d", w, workers)
			}
		}
		gotUps, gotDowns := lefts(e, workers)
		if !slices.Equal(gotUps, ups) || !slices.Equal(gotDowns, downs) {
			t.Errorf("of %d: %v, %v", workers, gotUps, gotDowns)
		}
	}
}

func TestEachWorkerDrawsItsOwn(t *testing.T) {
	e := of(t, purse(0, 8, 16), 8)
	for w := range 8 {
		if w%2 == 0 && e.Draw(w, byN(act.In, 1)) != api.OK {
			t.Errorf("worker %d", w)
		}
		if w%4 == 3 && e.Draw(w, byN(act.Out, 1)) != api.OK {
			t.Errorf("worker %d", w)
		}
	}
	ups, downs := lefts(e, 8)
	if !slices.Equal(ups, []uint64{0, 1, 0, 1, 0, 1, 0, 1}) || !slices.Equal(downs, []uint64{1, 1, 1, 0, 1, 1, 1, 0}) {
		t.Error(ups, downs)
	}
}

func TestDrawsAddUp(t *testing.T) {
	e := of(t, set(5, "b"), 2)
	for i, c := range []struct {
		worker int
		name   string
		want   api.Errno
	}{
		{0, "a", api.OK}, {0, "b", api.OK}, {0, "c", api.OK}, {0, "d", api.ErrFull}, {0, "b", api.OK},
		// It isn't the record's name, though it was drawn.
		{0, "a", api.ErrFull},
		{1, "a", api.OK}, {1, "a", api.OK}, {1, "a", api.ErrFull},
	} {
		if got := e.Draw(c.worker, join(c.name)); got != c.want {
			t.Errorf("%d: %v", i, got)
		}
	}
}

func TestClone(t *testing.T) {
	e := of(t, set(6, "b"), 2)
	if e.Draw(0, join("a")) != api.OK {
		t.Fatal("Draw")
	}
	c := e.Clone()
	if ups, _ := lefts(c, 2); !slices.Equal(ups, []uint64{2, 2}) {
		t.Error("not the same", ups)
	}
	if c.Draw(0, join("x"), join("y")) != api.OK || e.Draw(1, join("x")) != api.OK {
		t.Error("Draw")
	}
	mine, _ := lefts(e, 2)
	its, _ := lefts(c, 2)
	if !slices.Equal(mine, []uint64{2, 1}) || !slices.Equal(its, []uint64{0, 2}) {
		t.Error("not apart", mine, its)
	}
	if c.Draw(0, join("b")) != api.OK || c.Draw(0, join("z")) != api.ErrFull || c.Draw(2, join("b")) != api.ErrRange || c.Draw(0, byN(act.Add, 1)) != api.ErrKind {
		t.Error("a clone draws otherwise")
	}
	if ups, _ := lefts(c.Clone(), 2); !slices.Equal(ups, its) {
		t.Error("a clone's clone", ups)
	}
}

// TestEscrowKeepsNothing: what becomes of the record, or of acts, that were handed in doesn't matter.
func TestEscrowKeepsNothing(t *testing.T) {
	r, room := roomy(set(3, "a", "b"))
	e := of(t, r, 1)
	_, want := roomy(set(3, "a", "b"))
	if !slices.Equal(room, want) {
		t.Error("changed", room)
	}
	spoil(r.List)
	if e.Draw(0, join("a"), join("b")) != api.OK || e.Draw(0, join("spoilt"), join("spoilt")) != api.ErrFull {
		t.Error("kept")
	}
	l := []api.Act{join("a"), join("c"), join("d")}
	kept := slices.Clone(l)
	e.Draw(0, l[:2]...)
	e.Draw(0, l...)
	if !slices.EqualFunc(l, kept, act.Same) {
		t.Error("acts changed", l)
	}
}

// P7.5

// chances: a row of numbers that is the same in each run.
func chances() func(n int) int {
	state := uint64(88172645463325252)
	return func(n int) int {
		state ^= state << 13
		state ^= state >> 7
		state ^= state << 17
		return int(state % uint64(n))
	}
}

// splitRecords are records that split, at the edges.
func splitRecords() []api.Record {
	return []api.Record{
		sum(0), sum(most), sum(least),
		count(0), count(-1), count(most), count(least), count(most - 5), count(least + 9),
		purse(0, 5, 10), purse(4, 4, 4), purse(-m61, m61, m61), purse(-m61, 0, m61), purse(-20, 3, 20),
		peak(0), peak(-inf), peak(oneNaN), dip(0), dip(oneNaN), dip(-inf),
		set(1), set(4, "a", "c"), set(32), {Kind: rec.Set, Cap: 32, List: letters(32)}, {Kind: rec.Set, Cap: 32, List: letters(20)},
		top(1), top(1, item(1, "a")), top(4, item(2, "b"), item(0, "a")), top(32),
	}
}

// someAct: an act that splits a kind of records.
func someAct(kind int, chance func(int) int) api.Act {
	of := splitting[kind]
	a := api.Act{Kind: of[chance(len(of))], Key: "a"}
	if act.Field(a.Kind, 'n') {
		numbers := []int64{0, 1, 2, 3, 5, m61, m61 / 2, -1, -2, -5, most, least, most / 2, least / 4}
		if kind == rec.Purse {
			numbers = numbers[:7]
		}
		a.N = numbers[chance(len(numbers))]
	}
	if act.Field(a.Kind, 'x') {
		reals := []float64{-inf, -1, negZero, 0, 1, 2, inf, oneNaN}
		a.X = reals[chance(len(reals))]
	}
	if act.Field(a.Kind, 's') {
		a.S = string([]byte{byte(96 + chance(40))})
	}
	return a
}

// shuffled: a list in another order.
func shuffled(l []api.Act, chance func(int) int) []api.Act {
	l = slices.Clone(l)
	for i := range l {
		j := i + chance(len(l)-i)
		l[i], l[j] = l[j], l[i]
	}
	return l
}

// drawn: some acts that were drawn by each worker.
func drawn(e *Escrow, kind, workers int, chance func(int) int) [][]api.Act {
	out := make([][]api.Act, workers)
	for range 12 * workers {
		w := chance(workers)
		l := []api.Act{someAct(kind, chance)}
		for chance(3) == 0 {
			l = append(l, someAct(kind, chance))
		}
		if e.Draw(w, l...) == api.OK {
			out[w] = append(out[w], l...)
		}
	}
	return out
}

// sameInAnyOrder: that acts done upon a record, in some orders, leave just that, and that none is refused.
func sameInAnyOrder(t *testing.T, r, want api.Record, l []api.Act, chance func(int) int) {
	t.Helper()
	for range 2 {
		l = shuffled(l, chance)
		got, there, answers := rule.Row(r, true, l...)
		if !there || !exact(got, want) {
			t.Fatalf("%+v behind %d acts: %+v, but merged %+v", r, len(l), got, want)
		}
		for i, answer := range answers {
			if answer.Code != api.OK {
				t.Fatalf("%+v: %+v is refused, %v", r, l[i], answer.Code)
			}
		}
	}
}

// TestMergedIsOneBehindTheOther: whoever of the workers does its next act, and whenever slices are merged.
func TestMergedIsOneBehindTheOther(t *testing.T) {
	chance := chances()
	for _, r := range splitRecords() {
		done := 0
		for round := range 24 {
			workers := 1 + round%8
			e := of(t, r, workers)
			todo := drawn(e, r.Kind, workers, chance)
			parts := make([]api.Record, workers)
			for w := range parts {
				parts[w], _ = Slice(r)
				todo[w] = shuffled(todo[w], chance)
			}
			var did []api.Act
			for range 12 * workers {
				w := chance(workers)
				if len(todo[w]) == 0 {
					continue
				}
				parts[w] = Do(parts[w], todo[w][0])
				did, todo[w] = append(did, todo[w][0]), todo[w][1:]
				sameInAnyOrder(t, r, Merge(r, parts...), did, chance)
			}
			done += len(did)
		}
		// All but a Purse whose bounds are one, which takes nothing but noughts, do much.
		if done < 24 && !exact(r, purse(4, 4, 4)) {
			t.Errorf("%+v: only %d acts were done", r, done)
		}
	}
}

// TestAllThatMayBeDrawn: workers that draw all that they may bring a record to its bounds, and not beyond.
func TestAllThatMayBeDrawn(t *testing.T) {
	for workers := 1; workers <= 8; workers++ {
		for _, r := range []api.Record{purse(0, 5, 10), purse(-m61, m61-7, m61), purse(-20, -3, 20)} {
			e := of(t, r, workers)
			for w := range workers {
				up, down := e.Left(w)
				rest := int64(down)
				for rest > m61 {
					if e.Draw(w, byN(act.Out, m61)) != api.OK {
						t.Fatal("Out of the most")
					}
					rest -= m61
				}
				if e.Draw(w, byN(act.In, int64(up)), byN(act.Out, rest)) != api.OK {
					t.Fatal("all")
				}
				if e.Draw(w, byN(act.In, 1)) != api.ErrOver || e.Draw(w, byN(act.Out, 1)) != api.ErrLow {
					t.Errorf("%+v: worker %d of %d draws more than all", r, w, workers)
				}
			}
		}
	}
	// A full slice of a Set: names that the record has, and those that were drawn, are 32 at most.
	r := api.Record{Kind: rec.Set, Cap: 32, List: letters(20)}
	e := of(t, r, 1)
	slice, _ := Slice(r)
	for _, x := range letters(32) {
		if e.Draw(0, join(x.Name)) != api.OK {
			t.Fatal("Draw", x.Name)
		}
		slice = Do(slice, join(x.Name))
	}
	if got := Merge(r, slice); !exact(got, api.Record{Kind: rec.Set, Cap: 32, List: letters(32)}) {
		t.Error("a full Set", got)
	}
}
