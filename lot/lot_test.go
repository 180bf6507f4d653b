package lot

import (
	"math"
	"slices"
	"strings"
	"testing"

	"moiety/act"
	"moiety/api"
	"moiety/deal"
	"moiety/rec"
)

const m40 = 1 << 40

var otherNaN = math.Float64frombits(0xFFF8000000000003)

func long(n int) string { return strings.Repeat("x", n) }

// of: the deal of these acts.
func of(l ...api.Act) api.Deal { return api.Deal{Acts: l} }

func look(key string) api.Act { return api.Act{Kind: act.Look, Key: key} }
func add(key string) api.Act  { return api.Act{Kind: act.Add, Key: key, N: 1} }

// create: a New of a Set of two names.
func create(key string) api.Act {
	return api.Act{Kind: act.New, Key: key, Make: api.Record{Kind: rec.Set, Cap: 3, List: []api.Item{{Name: "p"}, {Name: "q"}}}}
}

// some: that many deals of one act, of unlike keys.
func some(n int) []api.Deal {
	var l []api.Deal
	for i := range n {
		l = append(l, of(look("k"+string([]byte{byte(i), byte(i >> 8)}))))
	}
	return l
}

// split: parts of n, each at most so many, none below least, as long as n isn't.
func split(n, least, most int) []int {
	var parts []int
	for n > 0 {
		part := min(n, most)
		if left := n - part; left > 0 && left < least {
			part -= least
		}
		parts = append(parts, part)
		n -= part
	}
	return parts
}

// fill: deals that have just so many bytes together (no fewer than 6), as few as will do.
func fill(n int) []api.Deal {
	var l []api.Deal
	for _, bytes := range split(n, 6, 829) {
		var d api.Deal
		// An act that Puts has five bytes beside its text.
		for _, each := range split(bytes-1, 5, 69) {
			d.Acts = append(d.Acts, api.Act{Kind: act.Put, Key: "a", S: long(each - 5)})
		}
		l = append(l, d)
	}
	return l
}

// wrongDeals is deals that may not be, and what is wrong.
func wrongDeals() []struct {
	d api.Deal
	e api.Errno
} {
	return []struct {
		d api.Deal
		e api.Errno
	}{
		{api.Deal{}, api.ErrRange},
		{api.Deal{Acts: []api.Act{}}, api.ErrRange},
		{of(slices.Repeat([]api.Act{look("a")}, 13)...), api.ErrRange},
		{of(api.Act{}), api.ErrKind},
		{of(look("a"), api.Act{Kind: act.Kinds, Key: "a"}), api.ErrKind},
		{of(look("a"), look("a"), look("")), api.ErrRange},
		{of(look(long(25)), api.Act{}), api.ErrRange},
		{of(api.Act{Kind: act.Look, Key: "a", N: 1}), api.ErrForm},
		{of(api.Act{Kind: act.Put, Key: "a", S: long(65)}), api.ErrLong},
		{of(api.Act{Kind: act.Raise, Key: "a", X: otherNaN}), api.ErrForm},
		{of(api.Act{Kind: act.New, Key: "a", Make: api.Record{Kind: rec.Set, Cap: 1, List: []api.Item{{Name: "a"}, {Name: "b"}}}}), api.ErrFull},
	}
}

// check: that a lot is told so.
func check(t *testing.T, name string, l api.Lot, e api.Errno, at int) {
	t.Helper()
	if gotE, gotAt := Check(l); gotE != e || gotAt != at {
		t.Errorf("%s: %v, %d, not %v, %d", name, gotE, gotAt, e, at)
	}
}

// P11.1

func TestCheckNumber(t *testing.T) {
	for _, n := range []int{1, 2, 127, 128, m40 - 1, m40} {
		check(t, "may be", api.Lot{Number: n}, api.OK, 0)
		check(t, "may be, with deals", api.Lot{Number: n, Deals: some(3)}, api.OK, 0)
	}
	for _, n := range []int{0, -1, -2, -m40, math.MinInt, m40 + 1, 2 * m40, math.MaxInt} {
		check(t, "may not be", api.Lot{Number: n}, api.ErrRange, 0)
		check(t, "may not be, with deals", api.Lot{Number: n, Deals: some(3)}, api.ErrRange, 0)
	}
}

func TestCheckHowManyDeals(t *testing.T) {
	for _, n := range []int{0, 1, 2, 31, 32} {
		check(t, "may be", api.Lot{Number: 1, Deals: some(n)}, api.OK, 0)
	}
	for _, n := range []int{33, 34, 64, 1000} {
		check(t, "too many", api.Lot{Number: 1, Deals: some(n)}, api.ErrFull, 0)
	}
	check(t, "an empty list", api.Lot{Number: 1, Deals: []api.Deal{}}, api.OK, 0)
}

func TestCheckTellsTheFirstDealThatMayNotBe(t *testing.T) {
	for _, w := range wrongDeals() {
		for _, n := range []int{1, 2, 5, 31, 32} {
			for i := range n {
				l := api.Lot{Number: 1, Deals: some(n)}
				l.Deals[i] = w.d
				check(t, "one", l, w.e, i+1)
				for j := i + 1; j < n; j++ {
					l.Deals[j] = of(look("a"), api.Act{Kind: -1, Key: "a", N: 4})
				}
				check(t, "several", l, w.e, i+1)
			}
		}
	}
}

func TestCheckHowManyBytes(t *testing.T) {
	for _, number := range []int{1, 127, 128, 16384, m40} {
		ahead := len(Bytes(api.Lot{Number: number}))
		for n := 2040; n <= 2060; n++ {
			want := api.OK
			if n > 2048 {
				want = api.ErrLong
			}
			check(t, "as many as that", api.Lot{Number: number, Deals: fill(n - ahead)}, want, 0)
		}
	}
	// As short as deals are, they all fit.
	check(t, "32 short ones", api.Lot{Number: m40, Deals: some(32)}, api.OK, 0)
	check(t, "32 of 64 bytes", api.Lot{Number: 1, Deals: slices.Repeat(fill(64), 32)}, api.ErrLong, 0)
	check(t, "32 of 63 bytes", api.Lot{Number: 1, Deals: slices.Repeat(fill(63), 32)}, api.OK, 0)
}

func TestCheckTellsTheFirstOfSeveral(t *testing.T) {
	wide, wrong := fill(3000), of(api.Act{Kind: act.Look, Key: "a", N: 1})
	with := func(l []api.Deal, more ...api.Deal) []api.Deal { return append(slices.Clone(l), more...) }
	for _, number := range []int{0, -1, m40 + 1} {
		check(t, "Number, and too many", api.Lot{Number: number, Deals: some(33)}, api.ErrRange, 0)
		check(t, "Number, and a deal", api.Lot{Number: number, Deals: []api.Deal{wrong}}, api.ErrRange, 0)
		check(t, "Number, and too long", api.Lot{Number: number, Deals: wide}, api.ErrRange, 0)
		check(t, "Number, and all else", api.Lot{Number: number, Deals: with(with(wide, wrong), some(40)...)}, api.ErrRange, 0)
	}
	check(t, "too many, and a deal", api.Lot{Number: 1, Deals: with([]api.Deal{wrong}, some(32)...)}, api.ErrFull, 0)
	check(t, "too many, and the last deal", api.Lot{Number: 1, Deals: with(some(32), wrong)}, api.ErrFull, 0)
	check(t, "too many, and too long", api.Lot{Number: 1, Deals: with(wide, some(32)...)}, api.ErrFull, 0)
	check(t, "a deal, and too long", api.Lot{Number: 1, Deals: with([]api.Deal{wrong}, wide...)}, api.ErrForm, 1)
	check(t, "too long, and a deal behind", api.Lot{Number: 1, Deals: with(wide, wrong)}, api.ErrForm, len(wide)+1)
	check(t, "too long, and the 32nd deal", api.Lot{Number: 1, Deals: with(with(wide, some(31-len(wide))...), wrong)}, api.ErrForm, 32)
}

func TestSame(t *testing.T) {
	must := look("a")
	must.Must = true
	one, other := of(look("a")), of(look("b"))
	lots := []api.Lot{
		{},
		{Number: 1},
		{Number: -1},
		{Number: m40 + 1},
		{Number: 1, Deals: []api.Deal{{}}},
		{Number: 1, Deals: []api.Deal{{}, {}}},
		{Number: 1, Deals: []api.Deal{one}},
		{Number: 2, Deals: []api.Deal{one}},
		{Number: 1, Deals: []api.Deal{other}},
		{Number: 1, Deals: []api.Deal{of(must)}},
		{Number: 1, Deals: []api.Deal{one, other}},
		{Number: 1, Deals: []api.Deal{other, one}},
		{Number: 1, Deals: []api.Deal{of(look("a"), look("b"))}},
		{Number: 1, Deals: []api.Deal{of(create("a"))}},
		{Number: 1, Deals: []api.Deal{of(create("a")), of(create("a"))}},
		{Number: 1, Deals: some(32)},
		{Number: 1, Deals: some(33)},
	}
	for i, a := range lots {
		for j, b := range lots {
			if Same(a, b) != (i == j) {
				t.Errorf("%d and %d", i, j)
			}
		}
	}
	fix := func(x float64) api.Lot { return api.Lot{Deals: []api.Deal{of(api.Act{Kind: act.Fix, X: x})}} }
	if !Same(fix(otherNaN), fix(math.NaN())) || Same(fix(0), fix(math.Copysign(0, -1))) {
		t.Error("not as layers below tell it")
	}
	if !Same(api.Lot{}, api.Lot{Deals: []api.Deal{}}) {
		t.Error("no deals are unlike no deals")
	}
}

// P11.3

// cut: what Cut answers, held against what may be: all deals are there, in their order, and not one more would fit.
func cut(t *testing.T, name string, number int, l []api.Deal, want int) {
	t.Helper()
	got, left := Cut(number, l)
	if got.Number != number || len(got.Deals) != want || len(left) != len(l)-want {
		t.Errorf("%s: number %d, %d deals, %d left, not %d", name, got.Number, len(got.Deals), len(left), want)
		return
	}
	if !slices.EqualFunc(slices.Concat(got.Deals, left), l, deal.Same) {
		t.Errorf("%s: the deals are others", name)
	}
	if e, _ := Check(got); want > 0 && e != api.OK {
		t.Errorf("%s: the lot may not be: %v", name, e)
	}
	if len(left) > 0 {
		if e, _ := Check(api.Lot{Number: number, Deals: l[:want+1]}); e == api.OK {
			t.Errorf("%s: one more would fit", name)
		}
	}
}

func TestCut(t *testing.T) {
	cut(t, "no deals", 1, nil, 0)
	cut(t, "an empty list", 1, []api.Deal{}, 0)
	for n := 1; n <= 70; n++ {
		cut(t, "short ones", 1, some(n), min(n, 32))
	}
	cut(t, "many", m40, some(1000), 32)
}

func TestCutEndsAtOneThatMayNotBe(t *testing.T) {
	for _, w := range wrongDeals() {
		for _, n := range []int{1, 2, 32, 33, 34} {
			for i := range n {
				l := some(n)
				l[i] = w.d
				cut(t, "one that may not be", 5, l, min(i, 32))
			}
		}
	}
	cut(t, "none that may be", 5, make([]api.Deal, 40), 0)
}

func TestCutOfWhatJustFits(t *testing.T) {
	for _, number := range []int{1, 128, m40} {
		ahead := len(Bytes(api.Lot{Number: number}))
		for n := 2030; n <= 2048; n++ {
			l := fill(n - ahead)
			cut(t, "all fit", number, l, len(l))
			// The shortest deal has five bytes.
			all := append(slices.Clone(l), of(look("a")))
			if n+5 <= 2048 {
				cut(t, "one more fits", number, all, len(all))
			} else {
				cut(t, "one more doesn't fit", number, all, len(l))
			}
		}
		for n := 2049; n <= 2060; n++ {
			l := fill(n - ahead)
			cut(t, "the last doesn't fit", number, append(slices.Clone(l), some(3)...), len(l)-1)
		}
	}
}

// TestCutOfOneTooLong: a deal that may be, but in no lot.
func TestCutOfOneTooLong(t *testing.T) {
	var items []api.Item
	for i := range 32 {
		items = append(items, api.Item{Score: float64(-i), Name: long(16)})
	}
	big := of(slices.Repeat([]api.Act{{Kind: act.New, Key: "a", Make: api.Record{Kind: rec.Top, Cap: 32, List: items}}}, 12)...)
	if e, _ := deal.Check(big); e != api.OK {
		t.Fatal(e)
	}
	check(t, "alone", api.Lot{Number: 1, Deals: []api.Deal{big}}, api.ErrLong, 0)
	cut(t, "first", 1, append([]api.Deal{big}, some(2)...), 0)
	cut(t, "second", 1, append(some(1), big, some(1)[0]), 1)
}

// TestCutByNumbersThatMayNotBe: no deal may be in such a lot.
func TestCutByNumbersThatMayNotBe(t *testing.T) {
	for _, number := range []int{0, -1, math.MinInt, m40 + 1, math.MaxInt} {
		cut(t, "short ones", number, some(3), 0)
		cut(t, "no deals", number, nil, 0)
	}
}

func TestCutAllByAndBy(t *testing.T) {
	all := slices.Concat(some(40), fill(5000), some(70), fill(2040))
	var got []api.Deal
	number := 0
	for left := all; len(left) > 0; {
		number++
		var l api.Lot
		if l, left = Cut(number, left); len(l.Deals) == 0 {
			t.Fatal("none is cut")
		}
		got = append(got, l.Deals...)
	}
	if !slices.EqualFunc(got, all, deal.Same) || number < 6 {
		t.Errorf("%d lots, %d deals of %d", number, len(got), len(all))
	}
}

// P2

// roomy: deals that all have lists, with spare room behind each.
func roomy() []api.Deal {
	var l []api.Deal
	for range 36 {
		d := of(create("a"), create("b"), add("spare"))
		d.Acts[0].Make.List = append(d.Acts[0].Make.List, api.Item{Name: "spare"})[:2]
		d.Acts = d.Acts[:2]
		l = append(l, d)
	}
	return l[:34]
}

// withRoom: all lists of deals, with their spare room.
func withRoom(l []api.Deal) []api.Deal {
	var out []api.Deal
	for _, d := range l[:cap(l)] {
		acts := slices.Clone(d.Acts[:cap(d.Acts)])
		for i := range acts {
			list := acts[i].Make.List
			acts[i].Make.List = slices.Clone(list[:cap(list)])
		}
		out = append(out, of(acts...))
	}
	return out
}

// spoil: changes all lists of deals, their spare room too.
func spoil(l []api.Deal) {
	l = l[:cap(l)]
	for i := range l {
		acts := l[i].Acts[:cap(l[i].Acts)]
		for j := range acts {
			list := acts[j].Make.List[:cap(acts[j].Make.List)]
			for k := range list {
				list[k] = api.Item{Score: -99, Name: "spoilt"}
			}
			acts[j] = api.Act{Kind: -99, Key: "spoilt"}
		}
		l[i] = of(api.Act{Kind: -98})
	}
}

func TestArgumentsAreLeft(t *testing.T) {
	l := roomy()
	want := withRoom(l)
	Check(api.Lot{Number: 1, Deals: l[:32]})
	Same(api.Lot{Deals: l}, api.Lot{Deals: l})
	Bytes(api.Lot{Number: 1, Deals: l[:32]})
	got, left := Cut(1, l)
	got.Deals = append(got.Deals, of(look("more")))
	left = append(left, of(look("more")))
	if !slices.EqualFunc(withRoom(l), want, deal.Same) {
		t.Error("changed")
	}
	spoil(got.Deals)
	spoil(left)
	if !slices.EqualFunc(withRoom(l), want, deal.Same) {
		t.Error("shared")
	}
}

func TestCutIsNewMemory(t *testing.T) {
	l := roomy()
	one, left := Cut(1, l)
	two, more := Cut(1, l)
	spoil(l)
	if !slices.EqualFunc(slices.Concat(one.Deals, left), roomy(), deal.Same) {
		t.Error("shares memory with what was handed in")
	}
	spoil(one.Deals)
	if !slices.EqualFunc(left, roomy()[32:], deal.Same) {
		t.Error("the lot shares memory with what is left")
	}
	spoil(left)
	if !slices.EqualFunc(slices.Concat(two.Deals, more), roomy(), deal.Same) {
		t.Error("two answers share memory")
	}
	// Nor do the lists of one deal.
	two.Deals[0].Acts[0].Make.List[0].Name = "spoilt"
	if !rec.Same(two.Deals[0].Acts[1].Make, create("b").Make) || !deal.Same(two.Deals[1], roomy()[1]) {
		t.Error("two lists of one answer share memory")
	}
}
