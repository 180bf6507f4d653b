package rule

import (
	"math"
	"slices"
	"testing"

	"moiety/act"
	"moiety/api"
	"moiety/rec"
)

// P5.2

func TestNewMakes(t *testing.T) {
	for kind, r := range plain() {
		if kind != rec.None {
			expect(t, api.Record{}, false, api.Act{Kind: act.New, Key: "a", Make: r}, r, true, api.Answer{})
		}
	}
}

func TestDrop(t *testing.T) {
	for _, r := range plain()[1:] {
		expect(t, r, true, api.Act{Kind: act.Drop, Key: "a"}, api.Record{}, false, api.Answer{})
	}
}

func TestIsAndLook(t *testing.T) {
	is, look := api.Act{Kind: act.Is, Key: "a"}, api.Act{Kind: act.Look, Key: "a"}
	for kind, r := range plain() {
		if kind == rec.None {
			continue
		}
		expect(t, r, true, is, r, true, api.Answer{Num: int64(kind)})
		expect(t, r, true, look, r, true, api.Answer{Rec: r})
	}
	for _, x := range proper {
		r := api.Record{Kind: rec.Level, Real: x}
		expect(t, r, true, look, r, true, api.Answer{Rec: r})
	}
	expect(t, api.Record{}, false, is, api.Record{}, false, api.Answer{})
}

func TestPutAndSwap(t *testing.T) {
	texts := []string{"", "a", "b", "\x00\xff", long(63), long(64)}
	for _, old := range texts {
		for _, s := range texts {
			r, want := api.Record{Kind: rec.Text, Text: old}, api.Record{Kind: rec.Text, Text: s}
			expect(t, r, true, api.Act{Kind: act.Put, Key: "a", S: s}, want, true, api.Answer{})
			expect(t, r, true, api.Act{Kind: act.Swap, Key: "a", S: s}, want, true, api.Answer{Rec: r})
		}
	}
}

func TestAdd(t *testing.T) {
	for _, c := range []struct{ num, n, want int64 }{
		{0, 0, 0}, {2, 3, 5}, {2, -3, -1},
		{most - 1, 1, most}, {most, 0, most}, {most, 1, least}, {most, 2, least + 1}, {most, most, -2},
		{least + 1, -1, least}, {least, 0, least}, {least, -1, most}, {least, least, 0}, {most, least, -1}, {least, most, -1},
	} {
		expect(t, api.Record{Kind: rec.Sum, Num: c.num}, true, api.Act{Kind: act.Add, Key: "a", N: c.n}, api.Record{Kind: rec.Sum, Num: c.want}, true, api.Answer{})
	}
}

func TestPlus(t *testing.T) {
	for _, c := range []struct{ num, n, want int64 }{
		{0, 0, 0}, {2, 3, 5}, {2, -3, -1},
		{most - 1, 1, most}, {most, 0, most}, {most, -1, most - 1}, {0, most, most}, {-1, most, most - 1}, {least, most, -1},
		{least + 1, -1, least}, {least, 0, least}, {least, 1, least + 1}, {0, least, least}, {1, least, least + 1}, {most, least, -1},
	} {
		expect(t, api.Record{Kind: rec.Count, Num: c.num}, true, api.Act{Kind: act.Plus, Key: "a", N: c.n}, api.Record{Kind: rec.Count, Num: c.want}, true, api.Answer{})
	}
	for _, c := range []struct{ num, n int64 }{
		{most, 1}, {most, 2}, {most, most}, {1, most}, {most - 1, 2}, {1 << 62, 1 << 62},
		{least, -1}, {least, -2}, {least, least}, {-1, least}, {least + 1, -2}, {-1<<62 - 1, -1 << 62},
	} {
		refused(t, api.Record{Kind: rec.Count, Num: c.num}, true, api.Act{Kind: act.Plus, Key: "a", N: c.n}, api.ErrOver)
	}
}

func TestReach(t *testing.T) {
	numbers := []int64{least, least + 1, -1, 0, 1, 7, most - 1, most}
	for i, num := range numbers {
		for j, n := range numbers {
			r, a := api.Record{Kind: rec.Count, Num: num}, api.Act{Kind: act.Reach, Key: "a", N: n}
			if i < j {
				refused(t, r, true, a, api.ErrNot)
			} else {
				expect(t, r, true, a, r, true, api.Answer{})
			}
		}
	}
}

func TestEnough(t *testing.T) {
	for _, num := range []int64{-m61, -1, 0, 1, m61} {
		for _, n := range []int64{least, -m61 - 1, -m61, -2, -1, 0, 1, 2, m61, m61 + 1, most} {
			r, a := api.Record{Kind: rec.Purse, Low: -m61, High: m61, Num: num}, api.Act{Kind: act.Enough, Key: "a", N: n}
			if num < n {
				refused(t, r, true, a, api.ErrNot)
			} else {
				expect(t, r, true, a, r, true, api.Answer{})
			}
		}
	}
	// What counts is Num, not what may be taken out of it.
	r := api.Record{Kind: rec.Purse, Low: 4, High: 9, Num: 5}
	expect(t, r, true, api.Act{Kind: act.Enough, Key: "a", N: 5}, r, true, api.Answer{})
}

func TestInAndOut(t *testing.T) {
	for _, c := range []struct {
		low, high, num, n int64
		in, out           api.Errno
	}{
		{0, 10, 5, 0, api.OK, api.OK},
		{0, 10, 5, 4, api.OK, api.OK},
		{0, 10, 5, 5, api.OK, api.OK},
		{0, 10, 5, 6, api.ErrOver, api.ErrLow},
		{0, 3, 2, 3, api.ErrOver, api.ErrLow},
		{0, 3, 2, 1, api.OK, api.OK},
		{0, 3, 2, 2, api.ErrOver, api.OK},
		{2, 9, 3, 2, api.OK, api.ErrLow},
		{-9, -2, -3, 2, api.ErrOver, api.OK},
		{0, 0, 0, 0, api.OK, api.OK},
		{0, 0, 0, 1, api.ErrOver, api.ErrLow},
		{7, 7, 7, 0, api.OK, api.OK},
		{-m61, m61, 0, m61 - 1, api.OK, api.OK},
		{-m61, m61, 0, m61, api.OK, api.OK},
		{-m61, m61, 1, m61, api.ErrOver, api.OK},
		{-m61, m61, -1, m61, api.OK, api.ErrLow},
		{-m61, m61, m61, m61, api.ErrOver, api.OK},
		{-m61, m61, -m61, m61, api.OK, api.ErrLow},
		{-m61, m61, m61, 0, api.OK, api.OK},
		{m61, m61, m61, 1, api.ErrOver, api.ErrLow},
		{-m61, -m61, -m61, m61, api.ErrOver, api.ErrLow},
	} {
		r := api.Record{Kind: rec.Purse, Low: c.low, High: c.high, Num: c.num}
		in, out := api.Act{Kind: act.In, Key: "a", N: c.n}, api.Act{Kind: act.Out, Key: "a", N: c.n}
		more, less := r, r
		if c.in == api.OK {
			more.Num += c.n
		}
		if c.out == api.OK {
			less.Num -= c.n
		}
		expect(t, r, true, in, more, true, api.Answer{Code: c.in})
		expect(t, r, true, out, less, true, api.Answer{Code: c.out})
	}
}

// proper is floating numbers in their one form, in the order of layer 1.
var proper = []float64{-inf, -hugest, -2, -tiniest, negZero, 0, tiniest, 1, 2, hugest, inf, oneNaN}

func TestRaiseAndLower(t *testing.T) {
	for i, old := range proper {
		for j, x := range proper {
			expect(t, api.Record{Kind: rec.Peak, Real: old}, true, api.Act{Kind: act.Raise, Key: "a", X: x}, api.Record{Kind: rec.Peak, Real: proper[max(i, j)]}, true, api.Answer{})
			expect(t, api.Record{Kind: rec.Dip, Real: old}, true, api.Act{Kind: act.Lower, Key: "a", X: x}, api.Record{Kind: rec.Dip, Real: proper[min(i, j)]}, true, api.Answer{})
		}
	}
}

func TestShiftScaleAndFix(t *testing.T) {
	for _, c := range []struct{ old, x, sum, product float64 }{
		{2.5, 1.5, 4, 3.75},
		{2.5, -2.5, 0, -6.25},
		{0.1, 0.2, 0.30000000000000004, 0.020000000000000004},
		{1 << 53, 1, 1 << 53, 1 << 53},
		{0, negZero, 0, negZero},
		{negZero, 0, 0, negZero},
		{negZero, negZero, negZero, 0},
		{negZero, -3, -3, 0},
		{hugest, hugest, inf, inf},
		{hugest, -hugest, 0, -inf},
		{tiniest, -tiniest, 0, negZero},
		{inf, -inf, oneNaN, -inf},
		{-inf, inf, oneNaN, -inf},
		{inf, 0, inf, oneNaN},
		{negZero, inf, inf, oneNaN},
		{oneNaN, 1, oneNaN, oneNaN},
		{1, oneNaN, oneNaN, oneNaN},
	} {
		r := api.Record{Kind: rec.Level, Real: c.old}
		expect(t, r, true, api.Act{Kind: act.Shift, Key: "a", X: c.x}, api.Record{Kind: rec.Level, Real: c.sum}, true, api.Answer{})
		expect(t, r, true, api.Act{Kind: act.Scale, Key: "a", X: c.x}, api.Record{Kind: rec.Level, Real: c.product}, true, api.Answer{})
	}
	for _, old := range proper {
		for _, x := range proper {
			expect(t, api.Record{Kind: rec.Level, Real: old}, true, api.Act{Kind: act.Fix, Key: "a", X: x}, api.Record{Kind: rec.Level, Real: x}, true, api.Answer{})
		}
	}
}

func set(cap int, names ...string) api.Record {
	return api.Record{Kind: rec.Set, Cap: cap, List: named(names...)}
}

func TestJoin(t *testing.T) {
	for _, c := range []struct {
		r    api.Record
		name string
		want api.Record
	}{
		{set(1), "a", set(1, "a")},
		{set(1), "", set(1, "")},
		{set(3, "b", "d"), "a", set(3, "a", "b", "d")},
		{set(3, "b", "d"), "c", set(3, "b", "c", "d")},
		{set(3, "b", "d"), "e", set(3, "b", "d", "e")},
		{set(3, "b", "d"), "", set(3, "", "b", "d")},
		{set(3, "b", "d"), "bb", set(3, "b", "bb", "d")},
		{set(3, "b", "d"), "b\x00", set(3, "b", "b\x00", "d")},
		{set(3, "b", "d"), "\xff", set(3, "b", "d", "\xff")},
		{set(3, "b", "d"), "B", set(3, "B", "b", "d")},
		{set(3, "b", "d"), long(16), set(3, "b", "d", long(16))},
		{set(3, "b", "d"), "b", set(3, "b", "d")},
		{set(2, "b", "d"), "d", set(2, "b", "d")},
		{set(1, ""), "", set(1, "")},
	} {
		expect(t, c.r, true, api.Act{Kind: act.Join, Key: "a", S: c.name}, c.want, true, api.Answer{})
	}
}

func TestJoinWhereThereIsNoRoom(t *testing.T) {
	for _, c := range []struct {
		r    api.Record
		name string
	}{
		{set(1, "b"), "a"}, {set(1, "b"), "c"}, {set(1, "b"), ""}, {set(1, ""), "a"}, {set(2, "b", "d"), "c"}, {set(2, "b", "d"), "bb"},
	} {
		refused(t, c.r, true, api.Act{Kind: act.Join, Key: "a", S: c.name}, api.ErrFull)
	}
}

func TestJoinAtTheGreatestCap(t *testing.T) {
	join := api.Act{Kind: act.Join, Key: "a", S: "a"}
	almost, full := letters(31), letters(32)
	expect(t, api.Record{Kind: rec.Set, Cap: 32, List: almost}, true, join, api.Record{Kind: rec.Set, Cap: 32, List: append(named("a"), almost...)}, true, api.Answer{})
	refused(t, api.Record{Kind: rec.Set, Cap: 31, List: almost}, true, join, api.ErrFull)
	r := api.Record{Kind: rec.Set, Cap: 32, List: full}
	refused(t, r, true, join, api.ErrFull)
	for _, item := range full {
		expect(t, r, true, api.Act{Kind: act.Join, Key: "a", S: item.Name}, r, true, api.Answer{})
	}
}

func TestLeaveAndHas(t *testing.T) {
	for _, c := range []struct {
		r    api.Record
		name string
		has  bool
		want api.Record
	}{
		{set(3, "a", "b", "c"), "a", true, set(3, "b", "c")},
		{set(3, "a", "b", "c"), "b", true, set(3, "a", "c")},
		{set(3, "a", "b", "c"), "c", true, set(3, "a", "b")},
		{set(3, "a", "b", "c"), "", false, set(3, "a", "b", "c")},
		{set(3, "a", "b", "c"), "bb", false, set(3, "a", "b", "c")},
		{set(3, "a", "b", "c"), "d", false, set(3, "a", "b", "c")},
		{set(1, "a"), "a", true, set(1)},
		{set(1, ""), "", true, set(1)},
		{set(1, ""), "a", false, set(1, "")},
		{set(1), "a", false, set(1)},
		{set(1), "", false, set(1)},
		{set(2, "ab"), "a", false, set(2, "ab")},
		{set(2, long(16)), long(16), true, set(2)},
	} {
		has := api.Act{Kind: act.Has, Key: "a", S: c.name}
		expect(t, c.r, true, api.Act{Kind: act.Leave, Key: "a", S: c.name}, c.want, true, api.Answer{})
		if c.has {
			expect(t, c.r, true, has, c.r, true, api.Answer{})
		} else {
			refused(t, c.r, true, has, api.ErrNot)
		}
	}
	full := letters(32)
	r := api.Record{Kind: rec.Set, Cap: 32, List: full}
	for i, item := range full {
		want := r
		want.List = slices.Delete(slices.Clone(full), i, i+1)
		expect(t, r, true, api.Act{Kind: act.Leave, Key: "a", S: item.Name}, want, true, api.Answer{})
	}
}

// TestLeaveMakesRoom: who leaves may be followed by another one.
func TestLeaveMakesRoom(t *testing.T) {
	r, _, answers := Row(set(1, "a"), true, api.Act{Kind: act.Leave, Key: "a", S: "a"}, api.Act{Kind: act.Join, Key: "a", S: "b"})
	if !exact(r, set(1, "b")) || answers[0].Code != api.OK || answers[1].Code != api.OK {
		t.Errorf("%+v, %+v", r, answers)
	}
}

func top(cap int, items ...api.Item) api.Record {
	return api.Record{Kind: rec.Top, Cap: cap, List: items}
}

func item(score float64, name string) api.Item { return api.Item{Score: score, Name: name} }

func TestOffer(t *testing.T) {
	for _, c := range []struct {
		r    api.Record
		item api.Item
		want api.Record
	}{
		{top(1), item(2, "b"), top(1, item(2, "b"))},
		{top(1), item(-inf, ""), top(1, item(-inf, ""))},
		// the document's own
		{top(1, item(2, "b")), item(1, "a"), top(1, item(2, "b"))},
		{top(1, item(2, "b")), item(3, "c"), top(1, item(3, "c"))},
		{top(1, item(2, "b")), item(2, "a"), top(1, item(2, "a"))},
		{top(1, item(2, "b")), item(2, "c"), top(1, item(2, "b"))},
		{top(1, item(2, "b")), item(2, "b"), top(1, item(2, "b"))},
		// where there is room
		{top(3, item(2, "b")), item(1, "a"), top(3, item(2, "b"), item(1, "a"))},
		{top(3, item(2, "b")), item(3, "a"), top(3, item(3, "a"), item(2, "b"))},
		{top(3, item(2, "b")), item(2, "a"), top(3, item(2, "a"), item(2, "b"))},
		{top(3, item(2, "b")), item(2, "c"), top(3, item(2, "b"), item(2, "c"))},
		{top(3, item(2, "b")), item(2, "b"), top(3, item(2, "b"))},
		// one name with several scores is several items
		{top(3, item(2, "b")), item(1, "b"), top(3, item(2, "b"), item(1, "b"))},
		{top(3, item(2, "b")), item(3, "b"), top(3, item(3, "b"), item(2, "b"))},
		// between others, and over the end
		{top(3, item(3, "a"), item(1, "a")), item(2, "a"), top(3, item(3, "a"), item(2, "a"), item(1, "a"))},
		{top(2, item(3, "a"), item(1, "a")), item(2, "a"), top(2, item(3, "a"), item(2, "a"))},
		{top(2, item(3, "a"), item(1, "a")), item(4, "a"), top(2, item(4, "a"), item(3, "a"))},
		{top(2, item(3, "a"), item(1, "a")), item(0, "a"), top(2, item(3, "a"), item(1, "a"))},
		{top(2, item(3, "a"), item(1, "a")), item(3, "a"), top(2, item(3, "a"), item(1, "a"))},
		{top(2, item(3, "a"), item(1, "a")), item(1, "a"), top(2, item(3, "a"), item(1, "a"))},
		// the edges of the order
		{top(2, item(0, "a")), item(negZero, "a"), top(2, item(0, "a"), item(negZero, "a"))},
		{top(2, item(negZero, "a")), item(0, "a"), top(2, item(0, "a"), item(negZero, "a"))},
		{top(1, item(0, "a")), item(negZero, "a"), top(1, item(0, "a"))},
		{top(1, item(negZero, "a")), item(0, "a"), top(1, item(0, "a"))},
		{top(1, item(inf, "a")), item(oneNaN, "b"), top(1, item(oneNaN, "b"))},
		{top(1, item(oneNaN, "b")), item(inf, "a"), top(1, item(oneNaN, "b"))},
		{top(2, item(oneNaN, "b")), item(oneNaN, "b"), top(2, item(oneNaN, "b"))},
		{top(2, item(oneNaN, "b")), item(oneNaN, "a"), top(2, item(oneNaN, "a"), item(oneNaN, "b"))},
		{top(2, item(1, "")), item(1, long(16)), top(2, item(1, ""), item(1, long(16)))},
	} {
		expect(t, c.r, true, api.Act{Kind: act.Offer, Key: "a", X: c.item.Score, S: c.item.Name}, c.want, true, api.Answer{})
	}
}

func TestOfferAtTheGreatestCap(t *testing.T) {
	var items []api.Item
	for i := range 32 {
		items = append(items, item(float64(-i), "n"))
	}
	offer := api.Act{Kind: act.Offer, Key: "a", X: 1, S: "n"}
	more := append([]api.Item{item(1, "n")}, items...)
	expect(t, top(32, items[:31]...), true, offer, top(32, more[:32]...), true, api.Answer{})
	expect(t, top(32, items...), true, offer, top(32, more[:32]...), true, api.Answer{})
	expect(t, top(31, items[:31]...), true, offer, top(31, more[:31]...), true, api.Answer{})
}

// TestLongRows: many Joins, Leaves and Offers against lists that are put in order anew each time.
func TestLongRows(t *testing.T) {
	state := uint64(88172645463325252)
	chance := func(n int) int {
		state ^= state << 13
		state ^= state >> 7
		state ^= state << 17
		return int(state % uint64(n))
	}
	for range 200 {
		cap := 1 + chance(6)
		s, o := set(cap), top(cap)
		var names []string
		var items []api.Item
		for range 60 {
			name := string([]byte{byte('a' + chance(8))})
			if chance(2) == 0 {
				s, _, _ = Apply(s, true, api.Act{Kind: act.Join, Key: "a", S: name})
				if !slices.Contains(names, name) && len(names) < cap {
					names = append(names, name)
				}
			} else {
				s, _, _ = Apply(s, true, api.Act{Kind: act.Leave, Key: "a", S: name})
				names = slices.DeleteFunc(names, func(n string) bool { return n == name })
			}
			slices.Sort(names)
			x := item(proper[chance(len(proper))], name)
			o, _, _ = Apply(o, true, api.Act{Kind: act.Offer, Key: "a", X: x.Score, S: x.Name})
			items = ranked(append(items, x))
			if !exact(s, set(cap, names...)) || !exact(o, top(cap, items[:min(cap, len(items))]...)) {
				t.Fatalf("%+v, %+v; not %v, %v", s, o, names, items)
			}
		}
	}
}

// ranked: items, the best first, each once.
func ranked(l []api.Item) []api.Item {
	place := func(x float64) int {
		return slices.IndexFunc(proper, func(y float64) bool { return math.Float64bits(x) == math.Float64bits(y) })
	}
	slices.SortFunc(l, func(a, b api.Item) int {
		if place(a.Score) != place(b.Score) {
			return place(b.Score) - place(a.Score)
		}
		return int(a.Name[0]) - int(b.Name[0])
	})
	return slices.CompactFunc(l, func(a, b api.Item) bool { return place(a.Score) == place(b.Score) && a.Name == b.Name })
}
