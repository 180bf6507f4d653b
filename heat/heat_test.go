package heat

import (
	"fmt"
	"math"
	"slices"
	"sort"
	"strings"
	"testing"

	"moiety/act"
	"moiety/api"
	"moiety/rec"
	"moiety/share"
)

// splitting is the kinds of acts that split some kind of records, as layer 7 lists them.
func splitting() []int {
	return []int{act.Add, act.Plus, act.In, act.Out, act.Raise, act.Lower, act.Join, act.Offer}
}

func add(key string) api.Act { return api.Act{Kind: act.Add, Key: key, N: 1} }

// upon: a lot of one deal that Adds to each of these keys.
func upon(keys ...string) api.Lot {
	var d api.Deal
	for _, k := range keys {
		d.Acts = append(d.Acts, add(k))
	}
	return api.Lot{Number: 1, Deals: []api.Deal{d}}
}

// times: a key that many times.
func times(n int, key string) []string { return slices.Repeat([]string{key}, n) }

// key: the i-th of keys that rise.
func key(i int) string { return fmt.Sprintf("k%06d", i) }

// is: that a Heat has just these marks, in that order.
func is(t *testing.T, name string, h *Heat, want ...Mark) {
	t.Helper()
	if got := h.All(); !slices.Equal(got, want) {
		t.Errorf("%s: %v, not %v", name, got, want)
	}
	if h.Len() != len(want) {
		t.Errorf("%s: Len is %d, not %d", name, h.Len(), len(want))
	}
	for _, m := range want {
		if h.Score(m.Key) != m.Score {
			t.Errorf("%s: the score of %q is %d, not %d", name, m.Key, h.Score(m.Key), m.Score)
		}
	}
}

// P12.1

func TestTheZeroOneHasNone(t *testing.T) {
	var h Heat
	is(t, "zero", &h)
	if h.Score("a") != 0 || h.Score("") != 0 {
		t.Error("a score")
	}
	h.Note(api.Lot{})
	is(t, "behind a lot without deals", &h)
	h.Note(api.Lot{Number: 3, Deals: []api.Deal{{}, {Acts: []api.Act{{}}}}})
	is(t, "behind deals of nothing", &h)
}

func TestTheDocumentsExample(t *testing.T) {
	var h Heat
	h.Note(upon("a", "a", "a"))
	is(t, "three Adds", &h, Mark{"a", 3})
	h.Note(api.Lot{})
	is(t, "a lot without deals", &h, Mark{"a", 1})
	h.Note(api.Lot{})
	is(t, "one more", &h)
	if h.Score("a") != 0 {
		t.Error("a score without a mark")
	}
}

func TestScoresFade(t *testing.T) {
	for n := range 70 {
		var h Heat
		h.Note(upon(times(n, "a")...))
		for want := n; want > 0; want /= 2 {
			is(t, fmt.Sprint(n), &h, Mark{"a", want})
			h.Note(api.Lot{})
		}
		is(t, fmt.Sprint(n, " faded"), &h)
	}
}

// TestFadesAheadOfGrowing: what is noted now counts in full.
func TestFadesAheadOfGrowing(t *testing.T) {
	var h Heat
	for _, want := range []int{5, 7, 8, 9, 9, 9} {
		h.Note(upon(times(5, "a")...))
		is(t, "five each time", &h, Mark{"a", want})
	}
	var g Heat
	for range 5 {
		g.Note(upon("a"))
		is(t, "one each time", &g, Mark{"a", 1})
	}
	g.Note(upon("b"))
	is(t, "another one", &g, Mark{"b", 1})
}

func TestWhichKindsCount(t *testing.T) {
	kinds := []int{math.MinInt, -1, math.MaxInt, act.Kinds, act.Kinds + 1}
	for k := range act.Kinds {
		kinds = append(kinds, k)
	}
	for _, k := range kinds {
		var h Heat
		h.Note(api.Lot{Deals: []api.Deal{{Acts: []api.Act{{Kind: k, Key: "a"}, {Kind: k, Key: "a", N: 3, X: 2, S: "b"}}}}})
		some := false
		for r := -1; r <= rec.Kinds; r++ {
			some = some || share.Splits(r, k)
		}
		if some != slices.Contains(splitting(), k) {
			t.Fatalf("%d isn't as layer 7 tells it", k)
		}
		if some {
			is(t, act.Name(k), &h, Mark{"a", 2})
		} else {
			is(t, act.Name(k), &h)
		}
	}
}

// TestActsThatSplitNothing: they let no mark stay, either.
func TestActsThatSplitNothing(t *testing.T) {
	var h Heat
	h.Note(upon("a", "a", "b"))
	looks := api.Lot{Deals: []api.Deal{{Acts: []api.Act{{Kind: act.Look, Key: "a"}, {Kind: act.Put, Key: "b", S: "x"}, {Kind: act.Leave, Key: "c"}}}}}
	h.Note(looks)
	is(t, "once", &h, Mark{"a", 1})
	h.Note(looks)
	is(t, "twice", &h)
}

func TestAllActsOfAllDealsCount(t *testing.T) {
	var h Heat
	l := api.Lot{Number: 4}
	for i := range 32 {
		d := api.Deal{}
		for j := range 12 {
			d.Acts = append(d.Acts, api.Act{Kind: splitting()[(i+j)%8], Key: "a"})
		}
		d.Acts[11].Key = key(i)
		l.Deals = append(l.Deals, d)
	}
	h.Note(l)
	want := []Mark{{"a", 32 * 11}}
	for i := range 32 {
		want = append(want, Mark{key(i), 1})
	}
	is(t, "a full lot", &h, want...)
}

// TestWhatMayNotBeCountsToo: nothing is said of which lots, deals and acts may be.
func TestWhatMayNotBeCountsToo(t *testing.T) {
	long := strings.Repeat("x", 99)
	for _, l := range []api.Lot{
		{Number: -1, Deals: upon("", long, "a").Deals},
		{Number: math.MaxInt, Deals: []api.Deal{{}, {Acts: []api.Act{{Kind: act.In, Key: "", N: -4}, {}, {Kind: act.Offer, Key: long, X: math.NaN(), S: long}, {Kind: act.Join, Key: "a", S: long}}}}},
	} {
		var h Heat
		h.Note(l)
		is(t, "what may not be", &h, Mark{"", 1}, Mark{"a", 1}, Mark{long, 1})
	}
	var h Heat
	h.Note(upon(times(100000, "a")...))
	is(t, "a deal of many acts", &h, Mark{"a", 100000})
}

// marks: the marks of the keys from one on, up to another one.
func marks(from, to, score int) []Mark {
	var l []Mark
	for i := from; i < to; i++ {
		l = append(l, Mark{key(i), score})
	}
	return l
}

// keys: the keys from one on, up to another one, the greatest first.
func keys(from, to int) []string {
	var l []string
	for i := to - 1; i >= from; i-- {
		l = append(l, key(i))
	}
	return l
}

func TestHowManyMarksStay(t *testing.T) {
	for _, n := range []int{255, 256, 257, 258, 511, 512, 5000} {
		var h Heat
		h.Note(upon(keys(0, n)...))
		is(t, fmt.Sprint(n), &h, marks(0, min(n, 256), 1)...)
		if n > 256 && (h.Score(key(256)) != 0 || h.Score(key(n-1)) != 0) {
			t.Errorf("%d: a score without a mark", n)
		}
	}
}

func TestTheHottestStay(t *testing.T) {
	var h Heat
	// The last keys are the hottest ones.
	h.Note(upon(append(keys(0, 300), keys(200, 300)...)...))
	is(t, "two scores", &h, append(marks(200, 300, 2), marks(0, 156, 1)...)...)
	h.Note(upon(keys(400, 600)...))
	is(t, "one more lot", &h, append(marks(200, 300, 1), marks(400, 556, 1)...)...)
	// One that went begins anew.
	h.Note(upon(keys(0, 3)...))
	is(t, "none is left of the old ones", &h, marks(0, 3, 1)...)
}

// TestOldMarksMakeRoom: what has faded away doesn't count among the 256.
func TestOldMarksMakeRoom(t *testing.T) {
	var h Heat
	h.Note(upon(keys(0, 256)...))
	h.Note(upon(keys(1000, 1256)...))
	is(t, "256 others", &h, marks(1000, 1256, 1)...)
	h.Note(upon(append(keys(1000, 1256), "a")...))
	is(t, "257, of the same score", &h, append([]Mark{{"a", 1}}, marks(1000, 1255, 1)...)...)
	h.Note(upon("z", "z"))
	is(t, "one", &h, Mark{"z", 2})
}

// TestTrimmedBehindTheWholeLot: a key that is cold as yet may become hot in the same lot.
func TestTrimmedBehindTheWholeLot(t *testing.T) {
	var h Heat
	l := upon(keys(0, 256)...)
	l.Deals = append(l.Deals, upon("z").Deals...)
	l.Deals = append(l.Deals, upon("z").Deals...)
	h.Note(l)
	is(t, "the last", &h, append([]Mark{{"z", 2}}, marks(0, 255, 1)...)...)
}

// P12.2

func TestTheOrderOfAll(t *testing.T) {
	var h Heat
	h.Note(upon("b", "a", "c", "b", "ab", "aa", "B", "\xff", "\x00", "é", "", "c", "c", "\x80"))
	is(t, "by scores, then by keys", &h,
		Mark{"c", 3}, Mark{"b", 2}, Mark{"", 1}, Mark{"\x00", 1}, Mark{"B", 1}, Mark{"a", 1}, Mark{"aa", 1}, Mark{"ab", 1}, Mark{"\x80", 1}, Mark{"é", 1}, Mark{"\xff", 1})
}

func TestScoreOfOthers(t *testing.T) {
	var h Heat
	h.Note(upon("ab"))
	for _, k := range []string{"", "a", "b", "abc", "AB", "ab\x00"} {
		if h.Score(k) != 0 {
			t.Errorf("%q has a score", k)
		}
	}
	is(t, "asking marks nothing", &h, Mark{"ab", 1})
}

func TestAllIsNewMemory(t *testing.T) {
	var h Heat
	h.Note(upon("b", "a", "b", "c"))
	one, two := h.All(), h.All()
	clear(one[:cap(one)])
	want := []Mark{{"b", 2}, {"a", 1}, {"c", 1}}
	if !slices.Equal(two, want) {
		t.Error("two answers share memory", two)
	}
	is(t, "kept", &h, want...)
}

func TestClone(t *testing.T) {
	var h Heat
	h.Note(upon("a", "a", "a", "b"))
	c := h.Clone()
	is(t, "the clone", c, Mark{"a", 3}, Mark{"b", 1})
	h.Note(upon("c"))
	is(t, "the first one goes on", &h, Mark{"a", 1}, Mark{"c", 1})
	is(t, "the clone stays", c, Mark{"a", 3}, Mark{"b", 1})
	d := c.Clone()
	c.Note(upon("d", "a"))
	is(t, "the clone goes on", c, Mark{"a", 2}, Mark{"d", 1})
	is(t, "the first one stays", &h, Mark{"a", 1}, Mark{"c", 1})
	is(t, "a clone's clone stays", d, Mark{"a", 3}, Mark{"b", 1})
}

func TestCloneOfTheZeroOne(t *testing.T) {
	var h Heat
	c := h.Clone()
	is(t, "the clone", c)
	c.Note(upon("a"))
	is(t, "the clone goes on", c, Mark{"a", 1})
	is(t, "the zero one stays", &h)
	d := h.Clone()
	h.Note(upon("b"))
	is(t, "the zero one goes on", &h, Mark{"b", 1})
	is(t, "the other clone stays", d)
}

func TestCloneOfOneThatFaded(t *testing.T) {
	var h Heat
	h.Note(upon("a"))
	h.Note(api.Lot{})
	c := h.Clone()
	h.Note(upon("b"))
	is(t, "the clone", c)
	c.Note(upon("c"))
	is(t, "the first one", &h, Mark{"b", 1})
}

// P2

func TestNoteLeavesItsLot(t *testing.T) {
	list := []api.Item{{Name: "a"}, {Name: "b"}, {Name: "spare"}}
	acts := []api.Act{add("b"), {Kind: act.New, Key: "a", Make: api.Record{Kind: rec.Set, Cap: 2, List: list[:2]}}, add("a"), add("spare")}
	deals := []api.Deal{{Acts: acts[:3]}, {Acts: acts[1:2]}, {Acts: acts[3:]}}
	var h Heat
	h.Note(api.Lot{Number: 7, Deals: deals[:2]})
	is(t, "noted", &h, Mark{"a", 1}, Mark{"b", 1})
	if acts[0].Key != "b" || acts[2].Key != "a" || acts[3].Key != "spare" || list[0].Name != "a" || list[2].Name != "spare" || len(deals[2].Acts) != 1 {
		t.Error("changed")
	}
	acts[0].Key, acts[2].Key = "y", "z"
	clear(deals)
	is(t, "kept", &h, Mark{"a", 1}, Mark{"b", 1})
}

// chances: numbers that look like chance, and are the same each time.
func chances(seed uint64) func(int) int {
	return func(n int) int {
		seed ^= seed << 13
		seed ^= seed >> 7
		seed ^= seed << 17
		return int(seed % uint64(n))
	}
}

// slow: what Note leaves, told once more over a plain list.
func slow(was []Mark, l api.Lot) []Mark {
	var now []Mark
	for _, m := range was {
		now = append(now, Mark{m.Key, m.Score / 2})
	}
	for _, d := range l.Deals {
		for _, a := range d.Acts {
			if !slices.Contains(splitting(), a.Kind) {
				continue
			}
			i := slices.IndexFunc(now, func(m Mark) bool { return m.Key == a.Key })
			if i < 0 {
				i = len(now)
				now = append(now, Mark{a.Key, 0})
			}
			now[i].Score++
		}
	}
	now = slices.DeleteFunc(now, func(m Mark) bool { return m.Score == 0 })
	sort.Slice(now, func(i, j int) bool {
		return now[i].Score > now[j].Score || now[i].Score == now[j].Score && now[i].Key < now[j].Key
	})
	return now[:min(len(now), 256)]
}

// TestRowsOfLots: Heats and their clones, held against plain lists.
func TestRowsOfLots(t *testing.T) {
	next := chances(88172645463325252)
	for _, spread := range []int{3, 40, 300, 900} {
		h, want := &Heat{}, []Mark{}
		kept, stays := h.Clone(), want
		for i := range 60 {
			var l api.Lot
			for range next(90) {
				var d api.Deal
				for range next(60) {
					d.Acts = append(d.Acts, api.Act{Kind: next(act.Kinds + 1), Key: key(next(1 + next(spread)))})
				}
				l.Deals = append(l.Deals, d)
			}
			h.Note(l)
			want = slow(want, l)
			is(t, fmt.Sprint(spread, " keys, lot ", i), h, want...)
			is(t, "the clone", kept, stays...)
			if i%7 == 3 {
				kept, stays = h, want
				h = h.Clone()
			}
		}
	}
}
