package share

import (
	"math"
	"slices"
	"strings"
	"testing"

	"moiety/act"
	"moiety/api"
	"moiety/rec"
	"moiety/rule"
)

const (
	m61   = int64(1) << 61
	most  = math.MaxInt64
	least = math.MinInt64
)

var (
	oneNaN   = math.Float64frombits(0x7FF8000000000001)
	otherNaN = math.Float64frombits(0xFFF8000000000003)
	negZero  = math.Copysign(0, -1)
	inf      = math.Inf(1)
)

func long(n int) string { return strings.Repeat("x", n) }

// named: items without scores.
func named(names ...string) []api.Item {
	var l []api.Item
	for _, n := range names {
		l = append(l, api.Item{Name: n})
	}
	return l
}

// letters: that many names that rise.
func letters(n int) []api.Item {
	var l []api.Item
	for i := range n {
		l = append(l, api.Item{Name: string([]byte{byte(100 + i)})})
	}
	return l
}

func sum(n int64) api.Record   { return api.Record{Kind: rec.Sum, Num: n} }
func count(n int64) api.Record { return api.Record{Kind: rec.Count, Num: n} }
func purse(low, num, high int64) api.Record {
	return api.Record{Kind: rec.Purse, Low: low, Num: num, High: high}
}
func peak(x float64) api.Record { return api.Record{Kind: rec.Peak, Real: x} }
func dip(x float64) api.Record  { return api.Record{Kind: rec.Dip, Real: x} }
func set(cap int, names ...string) api.Record {
	return api.Record{Kind: rec.Set, Cap: cap, List: named(names...)}
}
func top(cap int, items ...api.Item) api.Record {
	return api.Record{Kind: rec.Top, Cap: cap, List: items}
}
func item(score float64, name string) api.Item { return api.Item{Score: score, Name: name} }

func byN(k int, n int64) api.Act   { return api.Act{Kind: k, Key: "a", N: n} }
func byX(k int, x float64) api.Act { return api.Act{Kind: k, Key: "a", X: x} }
func join(s string) api.Act        { return api.Act{Kind: act.Join, Key: "a", S: s} }
func offer(x float64, s string) api.Act {
	return api.Act{Kind: act.Offer, Key: "a", X: x, S: s}
}

// plain is a record of each kind that may be, by kind; the first is none.
func plain() []api.Record {
	return []api.Record{
		rec.Text:  {Kind: rec.Text, Text: "ab"},
		rec.Sum:   sum(-7),
		rec.Count: count(3),
		rec.Purse: purse(-2, 5, 10),
		rec.Peak:  peak(1.5),
		rec.Dip:   dip(-1.5),
		rec.Level: {Kind: rec.Level, Real: 2.5},
		rec.Set:   set(3, "a", "b"),
		rec.Top:   top(3, item(2, "b"), item(1, "a")),
	}
}

// wrong is records that may not be, of each kind, and what is wrong.
func wrong() []struct {
	r api.Record
	e api.Errno
} {
	return []struct {
		r api.Record
		e api.Errno
	}{
		{api.Record{}, api.ErrKind},
		{api.Record{Kind: -1, Num: 4}, api.ErrKind},
		{api.Record{Kind: rec.Kinds, Text: "a"}, api.ErrKind},
		{api.Record{Kind: math.MinInt}, api.ErrKind},
		{api.Record{Kind: rec.Text, Num: 1}, api.ErrForm},
		{api.Record{Kind: rec.Text, Text: long(65)}, api.ErrLong},
		{api.Record{Kind: rec.Sum, Real: negZero}, api.ErrForm},
		{api.Record{Kind: rec.Count, Num: 4, Cap: 1}, api.ErrForm},
		{purse(0, 4, 3), api.ErrRange},
		{purse(0, 0, m61+1), api.ErrRange},
		{purse(-m61-1, 0, 0), api.ErrRange},
		{purse(least, 0, most), api.ErrRange},
		{peak(otherNaN), api.ErrForm},
		{dip(otherNaN), api.ErrForm},
		{api.Record{Kind: rec.Level, Real: otherNaN}, api.ErrForm},
		{set(0), api.ErrRange},
		{set(33), api.ErrRange},
		{set(-1, "a"), api.ErrRange},
		{set(1, "a", "b"), api.ErrFull},
		{set(3, "b", "a"), api.ErrForm},
		{top(0), api.ErrRange},
		{top(33), api.ErrRange},
		{top(3, item(otherNaN, "")), api.ErrForm},
	}
}

// fit: an act of each kind that may be, by kind.
func fit() []api.Act {
	var l []api.Act
	for k := range act.Kinds {
		a := api.Act{Kind: k, Key: "key"}
		if act.Field(k, 'n') {
			a.N = 2
		}
		if act.Field(k, 'x') {
			a.X = 2.5
		}
		if act.Field(k, 's') {
			a.S = "c"
		}
		if act.Field(k, 'm') {
			a.Make = set(2, "q")
		}
		l = append(l, a)
	}
	return l
}

func sameBits(x, y float64) bool { return math.Float64bits(x) == math.Float64bits(y) }

// exact: two records, bit by bit, while rec.Same tells two that are no numbers not apart.
func exact(a, b api.Record) bool {
	items := slices.EqualFunc(a.List, b.List, func(x, y api.Item) bool {
		return sameBits(x.Score, y.Score) && x.Name == y.Name
	})
	return items && sameBits(a.Real, b.Real) && a.Kind == b.Kind && a.Num == b.Num &&
		a.Low == b.Low && a.High == b.High && a.Cap == b.Cap && a.Text == b.Text
}

// P7.1

// splitting is the kinds of acts that split a kind of records.
var splitting = map[int][]int{
	rec.Sum:   {act.Add},
	rec.Count: {act.Plus},
	rec.Purse: {act.In, act.Out},
	rec.Peak:  {act.Raise},
	rec.Dip:   {act.Lower},
	rec.Set:   {act.Join},
	rec.Top:   {act.Offer},
}

func TestSplits(t *testing.T) {
	numbers := []int{math.MinInt, -1, 1 << 32, math.MaxInt}
	for n := range act.Kinds + 2 {
		numbers = append(numbers, n)
	}
	yes := 0
	for _, kind := range numbers {
		for _, k := range numbers {
			if want := slices.Contains(splitting[kind], k); Splits(kind, k) != want {
				t.Errorf("%d by %d: %v", kind, k, !want)
			} else if want {
				yes++
			}
		}
	}
	if yes != 8 {
		t.Error(yes, "kinds of acts split")
	}
}

func TestSlice(t *testing.T) {
	for _, c := range []struct{ r, want api.Record }{
		{sum(-7), sum(0)},
		{sum(least), sum(0)},
		{count(3), sum(0)},
		{count(most), sum(0)},
		{purse(-2, 5, 10), sum(0)},
		{purse(-m61, m61, m61), sum(0)},
		{peak(1.5), peak(-inf)},
		{peak(oneNaN), peak(-inf)},
		{dip(1.5), dip(oneNaN)},
		{dip(-inf), dip(oneNaN)},
		{set(1), set(32)},
		{set(2, "a", "b"), set(32)},
		{api.Record{Kind: rec.Set, Cap: 32, List: letters(32)}, set(32)},
		{top(1, item(1, "a")), top(1)},
		{top(7), top(7)},
		{top(32, item(2, "a"), item(1, "a")), top(32)},
	} {
		got, ok := Slice(c.r)
		if !ok || !exact(got, c.want) || rec.Check(got) != api.OK {
			t.Errorf("%+v: %+v, %v; not %+v", c.r, got, ok, c.want)
		}
	}
}

func TestNoSlice(t *testing.T) {
	none := []api.Record{
		{Kind: rec.Text}, {Kind: rec.Text, Text: "ab"}, {Kind: rec.Level}, {Kind: rec.Level, Real: oneNaN},
	}
	for _, w := range wrong() {
		none = append(none, w.r)
	}
	for _, r := range none {
		if got, ok := Slice(r); ok || !exact(got, api.Record{}) {
			t.Errorf("%+v: %+v, %v", r, got, ok)
		}
	}
}

// TestKindsWithSlicesAreThoseThatSplit: there is a slice just of what some kind of acts splits.
func TestKindsWithSlicesAreThoseThatSplit(t *testing.T) {
	for kind, r := range plain() {
		split := false
		for k := range act.Kinds {
			split = split || Splits(kind, k)
		}
		if _, ok := Slice(r); ok != split {
			t.Errorf("%s: %v", rec.Name(kind), ok)
		}
	}
}

// P7.2

func TestDo(t *testing.T) {
	for i, c := range []struct {
		slice api.Record
		a     api.Act
		want  api.Record
	}{
		{sum(0), byN(act.Add, 3), sum(3)},
		{sum(most), byN(act.Add, 1), sum(least)},
		{sum(2), byN(act.Plus, 3), sum(5)},
		{sum(2), byN(act.Plus, -3), sum(-1)},
		{sum(most), byN(act.Plus, 1), sum(least)},
		{sum(least), byN(act.Plus, -1), sum(most)},
		{sum(least), byN(act.Plus, least), sum(0)},
		{sum(2), byN(act.In, 3), sum(5)},
		{sum(most), byN(act.In, m61), sum(least + m61 - 1)},
		{sum(2), byN(act.Out, 3), sum(-1)},
		{sum(2), byN(act.Out, 0), sum(2)},
		{sum(least), byN(act.Out, m61), sum(most - m61 + 1)},
		{peak(-inf), byX(act.Raise, -1), peak(-1)},
		{peak(-inf), byX(act.Raise, -inf), peak(-inf)},
		{peak(negZero), byX(act.Raise, 0), peak(0)},
		{peak(0), byX(act.Raise, negZero), peak(0)},
		{peak(1), byX(act.Raise, oneNaN), peak(oneNaN)},
		{dip(oneNaN), byX(act.Lower, inf), dip(inf)},
		{dip(oneNaN), byX(act.Lower, oneNaN), dip(oneNaN)},
		{dip(0), byX(act.Lower, negZero), dip(negZero)},
		{set(32), join("b"), set(32, "b")},
		{set(32, "b"), join("a"), set(32, "a", "b")},
		{set(32, "b"), join("b"), set(32, "b")},
		{set(32), join(""), set(32, "")},
		{top(1), offer(1, "a"), top(1, item(1, "a"))},
		{top(1, item(1, "a")), offer(2, "b"), top(1, item(2, "b"))},
		{top(1, item(1, "a")), offer(1, "b"), top(1, item(1, "a"))},
		{top(2, item(1, "b")), offer(1, "a"), top(2, item(1, "a"), item(1, "b"))},
	} {
		if got := Do(c.slice, c.a); !exact(got, c.want) {
			t.Errorf("%d: %+v, not %+v", i, got, c.want)
		}
	}
}

// TestDoOfAnyNumber: an In and an Out count as Adds, which are of any number; Must and keys don't matter.
func TestDoOfAnyNumber(t *testing.T) {
	numbers := []int64{least, least + 1, -m61 - 1, -m61, -1, 0, 1, m61, m61 + 1, most}
	for _, n := range numbers {
		for _, by := range numbers {
			for k, want := range map[int]int64{act.Add: n + by, act.Plus: n + by, act.In: n + by, act.Out: n - by} {
				a := api.Act{Kind: k, Key: long(24), N: by, Must: true}
				if got := Do(sum(n), a); !exact(got, sum(want)) {
					t.Errorf("%d, %s of %d: %d", n, act.Name(k), by, got.Num)
				}
			}
		}
	}
}

// TestDoIsApply: every kind of acts upon every kind of records, as layer 5 has it, but for those that count as Adds.
func TestDoIsApply(t *testing.T) {
	for _, r := range plain() {
		for k, a := range fit() {
			want, _, _ := rule.Apply(r, true, a)
			switch k {
			case act.Plus, act.In, act.Out:
				want = rec.Clone(r)
				if r.Kind == rec.Sum && k == act.Out {
					want.Num -= 2
				} else if r.Kind == rec.Sum {
					want.Num += 2
				}
			}
			if got := Do(r, a); !exact(got, want) {
				t.Errorf("%s upon %+v: %+v, not %+v", act.Name(k), r, got, want)
			}
		}
	}
}

func TestDoOfWhatMayNotBe(t *testing.T) {
	for _, w := range wrong() {
		for _, a := range fit() {
			if got := Do(w.r, a); !exact(got, w.r) {
				t.Errorf("%+v upon %+v: %+v", a, w.r, got)
			}
		}
	}
	for _, a := range []api.Act{
		{Kind: act.Plus, N: 1},
		{Kind: act.In, Key: long(25), N: 1},
		{Kind: act.Out, Key: "a", N: 1, S: "b"},
		{Kind: act.Plus, Key: "a", N: 1, X: negZero},
		{Kind: act.In, Key: "a", N: 1, Make: sum(0)},
		{Kind: math.MinInt, Key: "a", N: 1},
		{Kind: act.Kinds, Key: "a", N: 1},
	} {
		if got := Do(sum(5), a); !exact(got, sum(5)) {
			t.Errorf("%+v: %+v", a, got)
		}
	}
	if got := Do(set(32, "b"), join(long(17))); !exact(got, set(32, "b")) {
		t.Error("a name that is too long", got)
	}
	if got := Do(top(3), offer(otherNaN, "a")); !exact(got, top(3)) {
		t.Error("a score that is in no form", got)
	}
	if got := Do(peak(1), byX(act.Raise, otherNaN)); !exact(got, peak(1)) {
		t.Error("a number that is in no form", got)
	}
}

func TestMerge(t *testing.T) {
	full := api.Record{Kind: rec.Set, Cap: 32, List: letters(32)}
	for i, c := range []struct {
		r     api.Record
		parts []api.Record
		want  api.Record
	}{
		{sum(3), nil, sum(3)},
		{sum(3), []api.Record{sum(4)}, sum(7)},
		{sum(3), []api.Record{sum(4), sum(-9), sum(0)}, sum(-2)},
		{sum(most), []api.Record{sum(1)}, sum(least)},
		{sum(most), []api.Record{sum(most), sum(2)}, sum(0)},
		{count(3), []api.Record{sum(4), sum(1)}, count(8)},
		{count(least), []api.Record{sum(least), sum(most)}, count(most)},
		{count(most), []api.Record{sum(1), sum(-1)}, count(most)},
		{purse(0, 5, 10), []api.Record{sum(3), sum(-2)}, purse(0, 6, 10)},
		{purse(-m61, -m61, m61), []api.Record{sum(m61), sum(m61)}, purse(-m61, m61, m61)},
		// That a Purse stays within its bounds is the escrow's.
		{purse(0, 5, 10), []api.Record{sum(6)}, purse(0, 11, 10)},
		{peak(1), nil, peak(1)},
		{peak(1), []api.Record{peak(-inf), peak(2), peak(1.5)}, peak(2)},
		{peak(1), []api.Record{peak(-inf), peak(-inf)}, peak(1)},
		{peak(negZero), []api.Record{peak(0)}, peak(0)},
		{peak(0), []api.Record{peak(negZero)}, peak(0)},
		{peak(inf), []api.Record{peak(oneNaN), peak(1)}, peak(oneNaN)},
		{dip(1), []api.Record{dip(oneNaN), dip(-2), dip(0)}, dip(-2)},
		{dip(1), []api.Record{dip(oneNaN)}, dip(1)},
		{dip(0), []api.Record{dip(negZero)}, dip(negZero)},
		{dip(oneNaN), []api.Record{dip(inf), dip(oneNaN)}, dip(inf)},
		{set(3, "b"), nil, set(3, "b")},
		{set(3, "b"), []api.Record{set(32, "a", "b"), set(32), set(32, "a", "c")}, set(3, "a", "b", "c")},
		{set(2, "b"), []api.Record{set(32, "a", "c"), set(32, "b", "d")}, set(2, "a", "b")},
		{set(2, "b"), []api.Record{set(32, "c"), set(32, "a")}, set(2, "b", "c")},
		{set(32), []api.Record{full}, full},
		{full, []api.Record{full, set(32, "a")}, full},
		{top(1, item(1, "a")), []api.Record{top(1, item(2, "b"))}, top(1, item(2, "b"))},
		{top(2, item(1, "a")), []api.Record{top(2, item(1, "a")), top(2)}, top(2, item(1, "a"))},
		{top(3, item(2, "b")), []api.Record{top(3, item(3, "c"), item(1, "c")), top(3, item(2, "a"))}, top(3, item(3, "c"), item(2, "a"), item(2, "b"))},
		{top(2), []api.Record{top(2, item(0, "a")), top(2, item(negZero, "a"), item(-inf, "")), top(2, item(oneNaN, ""))}, top(2, item(oneNaN, ""), item(0, "a"))},
		// What is refused changes nothing, and what is behind it counts.
		{set(3), []api.Record{set(32, long(17)), set(32, "b")}, set(3, "b")},
		{top(3), []api.Record{top(3, item(otherNaN, "a"), item(1, long(17)), item(1, "b"))}, top(3, item(1, "b"))},
		// other kinds
		{api.Record{Kind: rec.Text, Text: "ab"}, []api.Record{sum(1), set(32, "a")}, api.Record{Kind: rec.Text, Text: "ab"}},
		{api.Record{Kind: rec.Level, Real: 1}, []api.Record{peak(2), dip(0)}, api.Record{Kind: rec.Level, Real: 1}},
		{api.Record{}, []api.Record{sum(1)}, api.Record{}},
		{api.Record{Num: 4, Text: "a"}, []api.Record{sum(1)}, api.Record{Num: 4, Text: "a"}},
		{api.Record{Kind: 99, List: named("b", "a")}, []api.Record{set(32, "c")}, api.Record{Kind: 99, List: named("b", "a")}},
	} {
		if got := Merge(c.r, c.parts...); !exact(got, c.want) {
			t.Errorf("%d: %+v, not %+v", i, got, c.want)
		}
	}
}

// TestMergeOfWhatMayNotBe: nothing is promised of it, but that it ends; a list that may not be stays.
func TestMergeOfWhatMayNotBe(t *testing.T) {
	var all []api.Record
	for _, w := range wrong() {
		all = append(all, w.r)
	}
	all = append(all, plain()...)
	for _, r := range all {
		got := Merge(r, all...)
		if (r.Kind == rec.Set || r.Kind == rec.Top) && rec.Check(r) != api.OK && !exact(got, r) {
			t.Errorf("%+v: %+v", r, got)
		}
	}
}

func TestEmptySlicesAreNothing(t *testing.T) {
	for _, r := range plain() {
		slice, ok := Slice(r)
		if got := Merge(r, slice, slice); ok && !exact(got, r) {
			t.Errorf("%+v: %+v", r, got)
		}
	}
}

// P2

// roomy: a record's clone whose list has spare room, and that room.
func roomy(r api.Record) (api.Record, []api.Item) {
	all := append(slices.Clone(r.List), make([]api.Item, 4)...)
	for i := len(r.List); i < len(all); i++ {
		all[i] = item(-77, "spare")
	}
	r.List = all[:len(r.List)]
	return r, all
}

// spoil: changes all of a list, its spare room too.
func spoil(l []api.Item) {
	l = l[:cap(l)]
	for i := range l {
		l[i] = item(-99, "spoilt")
	}
}

// TestNothingIsShared: whatever is done with an answer, what was handed in is as it was, with its spare room.
func TestNothingIsShared(t *testing.T) {
	for _, kind := range plain() {
		for _, a := range append(fit(), join("aa"), offer(1.5, "a"), api.Act{Kind: act.Join}) {
			r, room := roomy(kind)
			part, partRoom := roomy(kind)
			_, want := roomy(kind)
			for _, got := range []api.Record{Do(r, a), Merge(r), Merge(r, part), Merge(r, part, part)} {
				spoil(got.List)
			}
			if !slices.Equal(room, want) || !slices.Equal(partRoom, want) {
				t.Fatalf("%+v by %+v: %+v, %+v", kind, a, room, partRoom)
			}
		}
		slice, _ := Slice(kind)
		spoil(slice.List)
		if again, _ := Slice(kind); len(again.List) != 0 {
			t.Errorf("%+v: a slice shares", kind)
		}
	}
}

func TestPartsAreLeft(t *testing.T) {
	parts := []api.Record{set(32, "a"), set(32, "b"), set(32, "c")}
	Merge(set(4), parts[:2]...)
	if !exact(parts[0], set(32, "a")) || !exact(parts[1], set(32, "b")) || !exact(parts[2], set(32, "c")) {
		t.Error(parts)
	}
}
