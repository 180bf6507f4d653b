package pair

import (
	"math"
	"slices"
	"strings"
	"testing"

	"moiety/act"
	"moiety/api"
	"moiety/rec"
	"moiety/rule"
)

var (
	oneNaN   = math.Float64frombits(0x7FF8000000000001)
	otherNaN = math.Float64frombits(0xFFF8000000000003)
	negZero  = math.Copysign(0, -1)
)

var noKinds = []int{math.MinInt, -21, -1, 0, 22, 23, 257, 1 << 32, math.MaxInt}

// grid is which kinds change places, a line and a column for each kind from New on: new, drop, is, look, put, swap, add, plus, reach, in, out, enough, raise, lower, shift, scale, fix, join, leave, has, offer.
var grid = []string{
	".....................", // new
	".....................", // drop
	"..xxxxxxxxxxxxxxxxxxx", // is
	"..xx....x..x.......x.", // look
	"..x...xxxxxxxxxxxxxxx", // put
	"..x...xxxxxxxxxxxxxxx", // swap
	"..x.xxxxxxxxxxxxxxxxx", // add
	"..x.xxx..xxxxxxxxxxxx", // plus
	"..xxxxx.xxxxxxxxxxxxx", // reach
	"..x.xxxxx...xxxxxxxxx", // in
	"..x.xxxxx...xxxxxxxxx", // out
	"..xxxxxxx..xxxxxxxxxx", // enough
	"..x.xxxxxxxxxxxxxxxxx", // raise
	"..x.xxxxxxxxxxxxxxxxx", // lower
	"..x.xxxxxxxxxx...xxxx", // shift
	"..x.xxxxxxxxxx...xxxx", // scale
	"..x.xxxxxxxxxx...xxxx", // fix
	"..x.xxxxxxxxxxxxx...x", // join
	"..x.xxxxxxxxxxxxx.x.x", // leave
	"..xxxxxxxxxxxxxxx..xx", // has
	"..x.xxxxxxxxxxxxxxxxx", // offer
}

func inGrid(k, l int) bool { return grid[k-1][l-1] == 'x' }

// P6.1

func TestKinds(t *testing.T) {
	for k := 1; k < act.Kinds; k++ {
		for l := 1; l < act.Kinds; l++ {
			if Kinds(k, l) != inGrid(k, l) {
				t.Errorf("%s and %s: %v", act.Name(k), act.Name(l), Kinds(k, l))
			}
		}
	}
}

func TestNoKindsDoNotChangePlaces(t *testing.T) {
	for _, k := range noKinds {
		for l := range act.Kinds {
			if Kinds(k, l) || Kinds(l, k) {
				t.Errorf("%d and %d", k, l)
			}
		}
		for _, l := range noKinds {
			if Kinds(k, l) {
				t.Errorf("%d and %d", k, l)
			}
		}
	}
}

// P6.2

func TestCommute(t *testing.T) {
	for k := 1; k < act.Kinds; k++ {
		for l := 1; l < act.Kinds; l++ {
			for _, key := range []string{"a", "", "\x00", strings.Repeat("k", 30)} {
				a, b := api.Act{Kind: k, Key: key}, api.Act{Kind: l, Key: key, Must: true, N: 7}
				if Commute(a, b) != inGrid(k, l) {
					t.Errorf("%s and %s upon %q", act.Name(k), act.Name(l), key)
				}
				b.Key = key + "a"
				if !Commute(a, b) || !Commute(b, a) {
					t.Errorf("%s and %s upon unlike keys", act.Name(k), act.Name(l))
				}
			}
		}
	}
}

func TestCommuteOfNoKinds(t *testing.T) {
	for _, k := range noKinds {
		a, is := api.Act{Kind: k, Key: "a"}, api.Act{Kind: act.Is, Key: "a"}
		if Commute(a, is) || Commute(is, a) || Commute(a, a) {
			t.Errorf("%d upon one key", k)
		}
		is.Key = "b"
		if !Commute(a, is) || !Commute(is, a) {
			t.Errorf("%d upon unlike keys", k)
		}
	}
}

func TestRows(t *testing.T) {
	add := func(key string) api.Act { return api.Act{Kind: act.Add, Key: key} }
	put := func(key string) api.Act { return api.Act{Kind: act.Put, Key: key} }
	for i, c := range []struct {
		l, m []api.Act
		yes  bool
	}{
		{nil, nil, true},
		{nil, []api.Act{put("a")}, true},
		{[]api.Act{put("a"), put("a")}, []api.Act{}, true},
		{[]api.Act{put("a")}, []api.Act{put("a")}, false},
		{[]api.Act{put("a")}, []api.Act{put("b")}, true},
		{[]api.Act{put("a")}, []api.Act{put("b"), put("a")}, false},
		{[]api.Act{put("a")}, []api.Act{put("a"), put("b")}, false},
		{[]api.Act{put("b"), put("a")}, []api.Act{put("c"), put("a")}, false},
		{[]api.Act{put("a"), put("b")}, []api.Act{put("a"), put("c")}, false},
		// Acts of one row needn't change places with each other.
		{[]api.Act{put("a"), put("a")}, []api.Act{put("b"), put("b")}, true},
		{[]api.Act{add("a"), put("b")}, []api.Act{add("a"), put("c"), add("a")}, true},
		{[]api.Act{add("a"), put("b"), add("c")}, []api.Act{add("a"), add("b"), put("b"), add("c")}, false},
	} {
		if Rows(c.l, c.m) != c.yes || Rows(c.m, c.l) != c.yes {
			t.Errorf("%d: %v, %v", i, Rows(c.l, c.m), Rows(c.m, c.l))
		}
	}
}

func TestRowsAreCommuteOfEach(t *testing.T) {
	for k := range act.Kinds + 1 {
		for l := range act.Kinds + 1 {
			a, b := api.Act{Kind: k, Key: "a"}, api.Act{Kind: l, Key: "a"}
			far := api.Act{Kind: l, Key: "b"}
			if Rows([]api.Act{a}, []api.Act{b}) != Commute(a, b) || Rows([]api.Act{far, a}, []api.Act{b}) != (Commute(far, b) && Commute(a, b)) {
				t.Errorf("%d and %d", k, l)
			}
		}
	}
}

// P6.3

func text(s string) api.Record { return api.Record{Kind: rec.Text, Text: s} }

func TestDiffers(t *testing.T) {
	put := func(s string) api.Act { return api.Act{Kind: act.Put, Key: "a", S: s} }
	n := func(k int, n int64) api.Act { return api.Act{Kind: k, Key: "a", N: n} }
	x := func(k int, x float64) api.Act { return api.Act{Kind: k, Key: "a", X: x} }
	make := func(r api.Record) api.Act { return api.Act{Kind: act.New, Key: "a", Make: r} }
	look, is, drop := api.Act{Kind: act.Look, Key: "a"}, api.Act{Kind: act.Is, Key: "a"}, api.Act{Kind: act.Drop, Key: "a"}
	count, greatest := api.Record{Kind: rec.Count}, api.Record{Kind: rec.Count, Num: math.MaxInt64}
	purse := api.Record{Kind: rec.Purse, High: 3, Num: 2}
	level := api.Record{Kind: rec.Level, Real: negZero}
	for i, c := range []struct {
		r     api.Record
		there bool
		a, b  api.Act
		yes   bool
	}{
		// what is there isn't the same, answers are
		{text(""), true, put("b"), put("c"), true},
		{text(""), true, put("b"), put("b"), false},
		{level, true, x(act.Shift, 0), x(act.Fix, negZero), true},
		{level, true, x(act.Fix, 0), x(act.Fix, negZero), true},
		{level, true, x(act.Fix, oneNaN), x(act.Fix, oneNaN), false},
		// what is there is the same, answers aren't
		{count, true, n(act.Plus, 1), n(act.Reach, 1), true},
		{count, true, n(act.Plus, 1), n(act.Reach, 2), false},
		{count, true, n(act.Plus, 1), n(act.Reach, 0), false},
		{count, true, n(act.Plus, 1), look, true},
		{count, true, n(act.Plus, 0), look, false},
		{text("b"), true, put("b"), look, false},
		{purse, true, n(act.In, 1), n(act.In, 1), true},
		{purse, true, n(act.In, 2), n(act.In, 2), false},
		{purse, true, n(act.In, 1), n(act.Out, 2), false},
		{purse, true, n(act.In, 1), n(act.Out, 3), true},
		{count, false, is, make(count), true},
		// only whether one is there isn't the same
		{count, true, drop, make(count), true},
		{count, false, drop, make(count), true},
		{count, false, drop, drop, false},
		{count, true, drop, drop, true},
		{count, false, make(count), make(count), true},
		{count, false, look, n(act.Plus, 1), false},
		// the document's own
		{greatest, true, n(act.Plus, 1), n(act.Plus, -1), true},
		{count, true, n(act.Plus, 1), n(act.Plus, -1), false},
		// a record beside none doesn't count
		{greatest, false, n(act.Plus, 1), n(act.Plus, -1), false},
		// what may not be is refused, whichever is first
		{api.Record{Kind: rec.Text, Num: 1}, true, put("b"), put("c"), false},
		{api.Record{Kind: rec.Level, Real: otherNaN}, true, x(act.Fix, 1), x(act.Fix, 2), false},
		{api.Record{Kind: 99, List: []api.Item{{Score: otherNaN}}}, true, drop, make(count), false},
		{count, true, n(act.In, -1), n(act.Plus, 1), false},
		{text(""), true, put(strings.Repeat("x", 65)), put("b"), false},
		{count, true, api.Act{}, api.Act{Kind: -5, X: otherNaN}, false},
	} {
		for _, swap := range []bool{false, true} {
			a, b := c.a, c.b
			if swap {
				a, b = b, a
			}
			if Differs(c.r, c.there, a, b) != c.yes {
				t.Errorf("%d, %v: %v", i, swap, !c.yes)
			}
			// Whatever their keys are.
			b.Key = b.Key + b.Key
			if Differs(c.r, c.there, a, b) != c.yes {
				t.Errorf("%d, %v, unlike keys: %v", i, swap, !c.yes)
			}
		}
	}
}

// TestDiffersByOneAnswerAlone: of a Swap and a Put of the same text, only what the Swap is answered tells.
func TestDiffersByOneAnswerAlone(t *testing.T) {
	swap, put := api.Act{Kind: act.Swap, Key: "a", S: "b"}, api.Act{Kind: act.Put, Key: "a", S: "b"}
	if !Differs(text("a"), true, swap, put) || !Differs(text("a"), true, put, swap) || Differs(text("b"), true, swap, put) {
		t.Error("Swap and Put")
	}
}

// P6.4

// someRecords: of each kind several that may be, at the edges too.
func someRecords() []api.Record {
	l := []api.Record{text(""), text("a")}
	for _, n := range []int64{math.MinInt64, -1, 0, 1, math.MaxInt64} {
		l = append(l, api.Record{Kind: rec.Sum, Num: n}, api.Record{Kind: rec.Count, Num: n})
	}
	for _, n := range []int64{0, 1, 2} {
		l = append(l, api.Record{Kind: rec.Purse, High: 2, Num: n})
	}
	for _, x := range someReals() {
		l = append(l, api.Record{Kind: rec.Peak, Real: x}, api.Record{Kind: rec.Dip, Real: x}, api.Record{Kind: rec.Level, Real: x})
	}
	for _, list := range [][]api.Item{nil, {{Name: ""}}, {{Name: "a"}}, {{Name: "a"}, {Name: "b"}}} {
		l = append(l, api.Record{Kind: rec.Set, Cap: 2, List: list})
		if len(list) < 2 {
			l = append(l, api.Record{Kind: rec.Set, Cap: 1, List: list}, api.Record{Kind: rec.Top, Cap: 1, List: list})
		}
		l = append(l, api.Record{Kind: rec.Top, Cap: 2, List: list})
	}
	return append(l,
		api.Record{Kind: rec.Top, Cap: 2, List: []api.Item{{Score: oneNaN, Name: "a"}, {Score: 0, Name: "b"}}},
		api.Record{Kind: rec.Top, Cap: 2, List: []api.Item{{Score: 0, Name: "b"}, {Score: negZero, Name: "a"}}})
}

func someReals() []float64 {
	return []float64{math.Inf(-1), -1, negZero, 0, 0.5, math.MaxFloat64, math.Inf(1), oneNaN}
}

// someActs: of a kind several that may be, upon one key.
func someActs(k int) []api.Act {
	l := []api.Act{{Kind: k, Key: "a"}}
	vary := func(put func(a *api.Act, i int), n int) {
		var out []api.Act
		for _, a := range l {
			for i := range n {
				b := a
				put(&b, i)
				out = append(out, b)
			}
		}
		l = out
	}
	if act.Field(k, 'n') {
		numbers := []int64{math.MinInt64, -1, 0, 1, math.MaxInt64}
		if k == act.In || k == act.Out {
			numbers = []int64{0, 1, 2, 1 << 61}
		}
		vary(func(a *api.Act, i int) { a.N = numbers[i] }, len(numbers))
	}
	if act.Field(k, 'x') {
		vary(func(a *api.Act, i int) { a.X = someReals()[i] }, len(someReals()))
	}
	if act.Field(k, 's') {
		vary(func(a *api.Act, i int) { a.S = []string{"", "a", "b"}[i] }, 3)
	}
	if act.Field(k, 'm') {
		makes := []api.Record{text("a"), {Kind: rec.Sum}, {Kind: rec.Set, Cap: 1}}
		vary(func(a *api.Act, i int) { a.Make = makes[i] }, len(makes))
	}
	return l
}

// TestSomeMayBe: what soundness is tried with is what it is promised of.
func TestSomeMayBe(t *testing.T) {
	for _, r := range someRecords() {
		if e := rec.Check(r); e != api.OK {
			t.Errorf("%+v: %v", r, e)
		}
	}
	for k := 1; k < act.Kinds; k++ {
		for _, a := range someActs(k) {
			if e := act.Check(a); e != api.OK {
				t.Errorf("%+v: %v", a, e)
			}
		}
	}
}

func TestSound(t *testing.T) {
	records := someRecords()
	for k := 1; k < act.Kinds; k++ {
		for l := 1; l < act.Kinds; l++ {
			if !Kinds(k, l) {
				continue
			}
			for _, a := range someActs(k) {
				for _, b := range someActs(l) {
					if Differs(api.Record{}, false, a, b) {
						t.Fatalf("upon none: %+v, %+v", a, b)
					}
					for _, r := range records {
						if Differs(r, true, a, b) {
							t.Fatalf("upon %+v: %+v, %+v", r, a, b)
						}
					}
				}
			}
		}
	}
}

// chance: the same row of numbers at every run.
type chance uint64

func (c *chance) below(n int) int {
	s := uint64(*c)
	s ^= s << 13
	s ^= s >> 7
	s ^= s << 17
	*c = chance(s)
	return int(s % uint64(n))
}

func (c *chance) row(kinds ...int) []api.Act {
	var l []api.Act
	for range c.below(5) {
		some := someActs(kinds[c.below(len(kinds))])
		l = append(l, some[c.below(len(some))])
	}
	return l
}

// TestSoundRows: of two rows of which all acts change places it doesn't matter which is first, though acts of one row may not change places.
func TestSoundRows(t *testing.T) {
	c := chance(88172645463325252)
	records := someRecords()
	tried := 0
	for range 40000 {
		r := records[c.below(len(records))]
		there := c.below(8) > 0
		// Two kinds a row, so that enough of them change places.
		l, m := c.row(1+c.below(21), 1+c.below(21)), c.row(1+c.below(21), 1+c.below(21))
		if !Rows(l, m) {
			continue
		}
		if len(l) > 1 && len(m) > 1 {
			tried++
		}
		one, oneThere, lm := rule.Row(r, there, append(slices.Clone(l), m...)...)
		other, otherThere, ml := rule.Row(r, there, append(slices.Clone(m), l...)...)
		turned := append(slices.Clone(ml[len(m):]), ml[:len(m)]...)
		if oneThere != otherThere || !rec.Same(one, other) || !slices.EqualFunc(lm, turned, rule.Same) {
			t.Fatalf("upon %+v, %v: %+v, %+v", r, there, l, m)
		}
	}
	if tried < 1000 {
		t.Error("too few rows change places", tried)
	}
}

// P2

func TestArgumentsAreLeft(t *testing.T) {
	room := []api.Item{{Name: "b"}, {Name: "spare"}, {Name: "spare"}}
	want := slices.Clone(room)
	r := api.Record{Kind: rec.Set, Cap: 3, List: room[:1]}
	for _, k := range []int{act.Join, act.Leave} {
		for _, s := range []string{"a", "b", "c"} {
			a := api.Act{Kind: k, Key: "a", S: s}
			Differs(r, true, a, a)
			Differs(api.Record{}, false, api.Act{Kind: act.New, Key: "a", Make: r}, a)
		}
	}
	if !slices.Equal(room, want) {
		t.Error(room)
	}
}
