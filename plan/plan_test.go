package plan

import (
	"fmt"
	"math"
	"math/big"
	"slices"
	"strings"
	"testing"

	"moiety/act"
	"moiety/api"
	"moiety/deal"
	"moiety/fold"
	"moiety/heat"
	"moiety/lot"
	"moiety/rec"
	"moiety/share"
	"moiety/shelf"
)

const m40 = 1 << 40

// stock is records by keys, as tests keep them.
type stock map[string]api.Record

// on: a shelf with room, and these records.
func on(t *testing.T, room int, l stock) shelf.Shelf {
	t.Helper()
	s, e := shelf.New(room)
	for key, r := range l {
		if e == api.OK {
			s, e = s.Set(key, r)
		}
	}
	if e != api.OK {
		t.Fatalf("%d, %v: %v", room, l, e)
	}
	return s
}

func config(workers, hot, seed, room int) api.Config {
	return api.Config{Workers: workers, Hot: hot, Seed: seed, Room: room}
}

func of(l ...api.Act) api.Deal { return api.Deal{Acts: l} }

func lotOf(l ...api.Deal) api.Lot { return api.Lot{Number: 1, Deals: l} }

// must: an act that must be.
func must(a api.Act) api.Act {
	a.Must = true
	return a
}

func create(key string) api.Act {
	return api.Act{Kind: act.New, Key: key, Make: api.Record{Kind: rec.Sum}}
}
func drop(key string) api.Act          { return api.Act{Kind: act.Drop, Key: key} }
func look(key string) api.Act          { return api.Act{Kind: act.Look, Key: key} }
func is(key string) api.Act            { return api.Act{Kind: act.Is, Key: key} }
func put(key string) api.Act           { return api.Act{Kind: act.Put, Key: key, S: "x"} }
func add(key string) api.Act           { return api.Act{Kind: act.Add, Key: key, N: 1} }
func plus(key string, n int64) api.Act { return api.Act{Kind: act.Plus, Key: key, N: n} }
func in(key string, n int64) api.Act   { return api.Act{Kind: act.In, Key: key, N: n} }
func out(key string, n int64) api.Act  { return api.Act{Kind: act.Out, Key: key, N: n} }
func join(key, s string) api.Act       { return api.Act{Kind: act.Join, Key: key, S: s} }
func sum() api.Record                  { return api.Record{Kind: rec.Sum} }
func text() api.Record                 { return api.Record{Kind: rec.Text} }
func count(n int64) api.Record         { return api.Record{Kind: rec.Count, Num: n} }
func purse(num, high int64) api.Record { return api.Record{Kind: rec.Purse, Num: num, High: high} }
func set(most int, l ...string) api.Record {
	r := api.Record{Kind: rec.Set, Cap: most}
	for _, name := range l {
		r.List = append(r.List, api.Item{Name: name})
	}
	return r
}

// plain is a record of each kind that may be, by kind; the first is none.
func plain() []api.Record {
	return []api.Record{
		rec.Text:  text(),
		rec.Sum:   sum(),
		rec.Count: count(0),
		rec.Purse: purse(5, 10),
		rec.Peak:  {Kind: rec.Peak},
		rec.Dip:   {Kind: rec.Dip},
		rec.Level: {Kind: rec.Level},
		rec.Set:   set(3, "a"),
		rec.Top:   {Kind: rec.Top, Cap: 2},
	}
}

// hot: a Heat in which a key has a score.
func hot(key string, score int) *heat.Heat {
	h := &heat.Heat{}
	var l api.Lot
	for range score {
		l.Deals = append(l.Deals, of(add(key)))
	}
	h.Note(l)
	return h
}

// cold: a Heat without marks.
func cold() *heat.Heat { return &heat.Heat{} }

// two: a config of two workers, by which everything is split that can be.
func two() api.Config { return api.Config{Workers: 2, Room: 9} }

func samePlan(a, b Plan) bool {
	return slices.Equal(a.Split, b.Split) && slices.Equal(a.Early, b.Early) &&
		slices.Equal(a.Late, b.Late) && slices.Equal(a.Worker, b.Worker)
}

// makes: that a lot has just this plan.
func makes(t *testing.T, name string, c api.Config, s shelf.Shelf, h *heat.Heat, l api.Lot, want Plan) {
	t.Helper()
	if got, e := Make(c, s, h, l); e != api.OK || !samePlan(got, want) {
		t.Errorf("%s: %v, %+v, not %+v", name, e, got, want)
	}
}

// P13.1

func TestCheckEachLimit(t *testing.T) {
	fields := []struct {
		name        string
		least, most int
		at          func(*api.Config) *int
	}{
		{"Workers", 1, 8, func(c *api.Config) *int { return &c.Workers }},
		{"Hot", 0, 1048576, func(c *api.Config) *int { return &c.Hot }},
		{"Seed", 0, 2147483648, func(c *api.Config) *int { return &c.Seed }},
		{"Room", 1, 4096, func(c *api.Config) *int { return &c.Room }},
	}
	for _, f := range fields {
		c := api.Config{Workers: 3, Hot: 4, Seed: 5, Room: 6}
		for _, n := range []int{f.least, f.least + 1, (f.least + f.most) / 2, f.most - 1, f.most} {
			if *f.at(&c) = n; Check(c) != api.OK {
				t.Errorf("%s %d: %v", f.name, n, Check(c))
			}
		}
		for _, n := range []int{f.least - 1, f.most + 1, -1, -f.most, math.MinInt, math.MaxInt} {
			if *f.at(&c) = n; Check(c) != api.ErrRange {
				t.Errorf("%s %d: %v", f.name, n, Check(c))
			}
		}
	}
	if MaxHot != 1<<20 || MaxSeed != 1<<31 {
		t.Error(MaxHot, MaxSeed)
	}
}

func TestCheckAllAtOnce(t *testing.T) {
	for _, c := range []api.Config{config(1, 0, 0, 1), config(8, 1<<20, 1<<31, 4096)} {
		if Check(c) != api.OK {
			t.Error(c, Check(c))
		}
	}
	for _, c := range []api.Config{{}, {Workers: 1}, {Room: 1}, config(9, -1, -1, 4097), config(-1, -1, -1, -1)} {
		if Check(c) != api.ErrRange {
			t.Error(c, Check(c))
		}
	}
}

// P13.2: Worker

// slowWorker: who does a deal, by numbers that have no bounds.
func slowWorker(c api.Config, number, i int) int {
	n := big.NewInt(int64(c.Seed))
	n.Add(n, new(big.Int).Mul(big.NewInt(31), big.NewInt(int64(number))))
	n.Add(n, new(big.Int).Mul(big.NewInt(7), big.NewInt(int64(i))))
	return int(n.Mod(n, big.NewInt(int64(c.Workers))).Int64())
}

func TestWorkerOfSmallNumbers(t *testing.T) {
	for _, w := range []struct{ workers, seed, number, i, want int }{
		{4, 2, 1, 1, 0}, {8, 0, 1, 0, 7}, {8, 0, 1, 1, 6}, {8, 0, 2, 0, 6}, {8, 1, 1, 0, 0},
		{5, 0, 1, 0, 1}, {5, 0, 1, 3, 2}, {7, 0, 1, 31, 3}, {2, 0, 1, 0, 1}, {2, 0, 1, 1, 0}, {1, 9, 9, 9, 0},
	} {
		if got := Worker(api.Config{Workers: w.workers, Seed: w.seed, Room: 1}, w.number, w.i); got != w.want {
			t.Errorf("%+v: %d", w, got)
		}
	}
}

func TestWorkerOfAllNumbers(t *testing.T) {
	numbers := []int{1, 2, 3, 5, 8, 1000, 1 << 31, m40 - 1, m40}
	deals := []int{0, 1, 2, 3, 4, 5, 6, 7, 8, 30, 31, 32, 1 << 40, math.MaxInt / 7, math.MaxInt - 1, math.MaxInt}
	for workers := 1; workers <= 8; workers++ {
		for _, seed := range []int{0, 1, 2, 7, 100, 1<<31 - 1, 1 << 31} {
			c := api.Config{Workers: workers, Seed: seed, Room: 1}
			for _, number := range numbers {
				for _, i := range deals {
					if got, want := Worker(c, number, i), slowWorker(c, number, i); got != want {
						t.Errorf("%+v, %d, %d: %d, not %d", c, number, i, got, want)
					}
				}
			}
		}
	}
}

// P13.2: Split

// splits: that just these keys are split.
func splits(t *testing.T, name string, c api.Config, s shelf.Shelf, h *heat.Heat, l api.Lot, want ...string) {
	t.Helper()
	if got := Split(c, s, h, l); !slices.Equal(got, want) {
		t.Errorf("%s: %q, not %q", name, got, want)
	}
}

func TestSplitForOneWorker(t *testing.T) {
	s, l := on(t, 9, stock{"a": sum()}), lotOf(of(add("a"), add("a")))
	for workers := 1; workers <= 8; workers++ {
		c := api.Config{Workers: workers, Room: 9}
		if workers == 1 {
			splits(t, "one", c, s, hot("a", 99), l)
			makes(t, "one", c, s, hot("a", 99), l, Plan{Early: []int{0}, Worker: []int{0}})
		} else {
			splits(t, "more", c, s, cold(), l, "a")
		}
	}
}

func TestSplitJustHot(t *testing.T) {
	s := on(t, 9, stock{"a": sum(), "b": sum()})
	for score := range 6 {
		for acts := 1; acts < 5; acts++ {
			var l api.Lot
			for i := range acts {
				l.Deals = append(l.Deals, of(look("b"), add("a"), put("a")))
				l.Number = i + 1
			}
			h := hot("a", score)
			for hotness := range 12 {
				c := api.Config{Workers: 2, Hot: hotness, Room: 9}
				name := fmt.Sprint("score ", score, ", acts ", acts, ", Hot ", hotness)
				if hotness <= score+acts {
					splits(t, name, c, s, h, l, "a")
				} else {
					splits(t, name, c, s, h, l)
				}
			}
		}
	}
}

func TestSplitAtTheBoundsOfHot(t *testing.T) {
	s, l := on(t, 9, stock{"a": sum()}), lotOf(of(add("a")))
	c := api.Config{Workers: 2, Hot: MaxHot, Room: 9}
	splits(t, "one less", c, s, hot("a", MaxHot-2), l)
	splits(t, "just so much", c, s, hot("a", MaxHot-1), l, "a")
	splits(t, "more", c, s, hot("a", MaxHot), l, "a")
	c.Hot = 0
	splits(t, "0", c, s, cold(), l, "a")
	// Hot as it is, no act of this lot asks for it.
	splits(t, "0, no act", c, s, hot("a", 5), lotOf(of(look("a"))))
	splits(t, "0, no deal", c, s, hot("a", 5), api.Lot{Number: 1})
}

// TestSplitCountsAll: acts of one deal and of several, those that must be, those of other lots not.
func TestSplitCountsAll(t *testing.T) {
	s := on(t, 9, stock{"a": purse(5, 10)})
	l := lotOf(of(in("a", 1), must(out("a", 1)), look("a")), of(in("a", 99), plus("a", 1)), of(look("b")), of(out("a", 0)))
	c := api.Config{Workers: 2, Hot: 4, Room: 9}
	splits(t, "four", c, s, cold(), l, "a")
	c.Hot = 5
	splits(t, "not five", c, s, cold(), l)
	splits(t, "five with one mark", c, s, hot("a", 1), l, "a")
	splits(t, "another key's mark", c, s, hot("b", 1), l)
}

func TestSplitOfKeysWithoutARecord(t *testing.T) {
	l := lotOf(of(add("a"), plus("a", 1), in("b", 1), add("c")), of(create("b"), join("b", "x")))
	splits(t, "no records", two(), on(t, 9, nil), hot("a", 9), l)
	splits(t, "the zero shelf", two(), shelf.Shelf{}, hot("a", 9), l)
	splits(t, "one of them", two(), on(t, 9, stock{"c": sum(), "d": sum()}), cold(), l, "c")
}

func TestSplitByEachKindOfEach(t *testing.T) {
	for kind, r := range plain() {
		if kind == rec.None {
			continue
		}
		s := on(t, 9, stock{"k": r})
		for k := act.New; k < act.Kinds; k++ {
			a := api.Act{Kind: k, Key: "k"}
			if act.Field(k, 'm') {
				a.Make = sum()
			}
			if share.Splits(kind, k) {
				splits(t, rec.Name(kind)+" "+act.Name(k), two(), s, cold(), lotOf(of(a)), "k")
			} else {
				splits(t, rec.Name(kind)+" "+act.Name(k), two(), s, hot("k", 5), lotOf(of(a)))
			}
		}
	}
}

func TestSplitRises(t *testing.T) {
	keys := []string{"b", "a", "ab", "\xff", "\x00", "B", "é", "a\x00", "\x80", "aa"}
	l, records := api.Lot{Number: 1}, stock{}
	for range 3 {
		for _, key := range keys {
			l.Deals = append(l.Deals, of(add(key)))
			records[key] = sum()
		}
	}
	splits(t, "by bytes, each once", two(), on(t, 99, records), cold(), l,
		"\x00", "B", "a", "a\x00", "aa", "ab", "b", "\x80", "é", "\xff")
}

// P13.3

func TestMakeTellsWhatIsWrong(t *testing.T) {
	s := on(t, 9, stock{"a": sum()})
	good := lotOf(of(add("a")))
	deals := slices.Repeat(good.Deals, 33)
	long := strings.Repeat("x", 64)
	var wide []api.Deal
	for range 4 {
		wide = append(wide, of(slices.Repeat([]api.Act{{Kind: act.Put, Key: "a", S: long}}, 12)...))
	}
	for _, w := range []struct {
		name string
		l    api.Lot
		e    api.Errno
	}{
		{"no number", api.Lot{}, api.ErrRange},
		{"number below 1", api.Lot{Number: -5, Deals: good.Deals}, api.ErrRange},
		{"number above 2^40", api.Lot{Number: m40 + 1, Deals: good.Deals}, api.ErrRange},
		{"33 deals", api.Lot{Number: 1, Deals: deals}, api.ErrFull},
		{"a deal without acts", lotOf(of(add("a")), of()), api.ErrRange},
		{"an act of no kind", lotOf(of(add("a")), of(api.Act{})), api.ErrKind},
		{"an act with another field", lotOf(of(api.Act{Kind: act.Look, Key: "a", N: 1})), api.ErrForm},
		{"a lot that is too long", api.Lot{Number: 1, Deals: wide}, api.ErrLong},
	} {
		if e, _ := lot.Check(w.l); e != w.e {
			t.Fatalf("%s: %v", w.name, e)
		}
		if p, e := Make(two(), s, cold(), w.l); e != w.e || !samePlan(p, Plan{}) {
			t.Errorf("%s: %v, %+v", w.name, e, p)
		}
		for _, c := range []api.Config{{}, config(9, 0, 0, 1), config(1, -1, 0, 1), config(1, 0, 1<<31+1, 1), config(8, 1<<20, 0, 4097)} {
			if p, e := Make(c, s, cold(), w.l); e != api.ErrRange || !samePlan(p, Plan{}) {
				t.Errorf("%s, %+v: %v, %+v", w.name, c, e, p)
			}
			if p, e := Make(c, s, cold(), good); e != api.ErrRange || !samePlan(p, Plan{}) {
				t.Errorf("%+v: %v, %+v", c, e, p)
			}
		}
	}
}

func TestTheDocumentsExample(t *testing.T) {
	c := api.Config{Workers: 2, Hot: 1, Room: 9}
	l := lotOf(of(plus("a", 1)), of(look("a")), of(plus("a", 1)))
	want := Plan{Split: []string{"a"}, Early: []int{0}, Late: []int{1, 2}, Worker: []int{1, -1, -1}}
	makes(t, "the document's own", c, on(t, 9, stock{"a": count(0)}), cold(), l, want)
}

func TestMakeOfLotsWithoutDeals(t *testing.T) {
	for _, number := range []int{1, m40} {
		for _, c := range []api.Config{two(), config(1, 0, 0, 1), config(8, 1<<20, 1<<31, 4096)} {
			makes(t, "no deals", c, on(t, 9, stock{"a": sum()}), hot("a", 9), api.Lot{Number: number}, Plan{})
		}
	}
}

// TestNothingSplit: what isn't split needs nothing, and waits for nobody.
func TestNothingSplit(t *testing.T) {
	l := lotOf(of(look("a")), of(put("a")), of(create("b")), of(drop("a")), of(plus("c", 1)), of(plus("c", math.MaxInt64)))
	want := Plan{Early: []int{0, 1, 2, 3, 4, 5}}
	for i := range l.Deals {
		want.Worker = append(want.Worker, (2+31+7*i)%3)
	}
	c := api.Config{Workers: 3, Hot: 3, Seed: 2, Room: 9}
	makes(t, "nothing hot", c, on(t, 9, stock{"a": text(), "c": count(5)}), cold(), l, want)
}

// TestWhatAWorkerMayDraw: of a Purse of 5 from 0 to 10 the first of two workers may take 3 up and 3 down, the second 2 and 2. The deals are the first one's, the second one's, and so on.
func TestWhatAWorkerMayDraw(t *testing.T) {
	s := on(t, 9, stock{"p": purse(5, 10), "x": text()})
	c, pass := api.Config{Workers: 2, Seed: 1, Room: 9}, of(look("x"))
	for _, w := range []struct {
		name string
		l    []api.Deal
		late []int
	}{
		{"all of the first", []api.Deal{of(in("p", 3))}, nil},
		{"one more", []api.Deal{of(in("p", 4))}, []int{0}},
		{"all of the second", []api.Deal{pass, of(in("p", 2))}, nil},
		{"one more of the second", []api.Deal{pass, of(in("p", 3))}, []int{1}},
		{"down, all of the first", []api.Deal{of(out("p", 3))}, nil},
		{"down, one more", []api.Deal{of(out("p", 4))}, []int{0}},
		{"in one deal", []api.Deal{of(in("p", 1), in("p", 2), out("p", 3))}, nil},
		{"in one deal, one more", []api.Deal{of(in("p", 2), out("p", 1), in("p", 2))}, []int{0}},
		{"what comes in isn't there to go out", []api.Deal{of(in("p", 3), out("p", 4))}, []int{0}},
		{"behind one another", []api.Deal{of(in("p", 1)), of(in("p", 2)), of(in("p", 2)), pass, of(in("p", 1))}, []int{4}},
		{"each of their own", []api.Deal{of(in("p", 3)), of(in("p", 2)), of(out("p", 3)), of(out("p", 2)), of(in("p", 0))}, nil},
		{"behind what is late", []api.Deal{of(in("p", 4)), of(in("p", 1)), of(in("p", 0)), of(out("p", 0)), pass}, []int{0, 1, 2, 3}},
		{"nobody takes of the other", []api.Deal{of(in("p", 1)), of(in("p", 3))}, []int{1}},
		{"another key's act", []api.Deal{of(put("x"), in("p", 3))}, nil},
		{"an act that must be", []api.Deal{of(must(in("p", 3))), of(must(in("p", 3)))}, []int{1}},
	} {
		checkLate(t, w.name, c, s, cold(), api.Lot{Number: 1, Deals: w.l}, w.late...)
	}
}

// checkLate: that just these deals of a lot are late, and all else of its plan is to match.
func checkLate(t *testing.T, name string, c api.Config, s shelf.Shelf, h *heat.Heat, l api.Lot, late ...int) {
	t.Helper()
	want := Plan{Split: Split(c, s, h, l), Late: late}
	for i := range l.Deals {
		if slices.Contains(late, i) {
			want.Worker = append(want.Worker, -1)
			continue
		}
		want.Early = append(want.Early, i)
		want.Worker = append(want.Worker, slowWorker(c, l.Number, i))
	}
	makes(t, name, c, s, h, l, want)
}

func TestWhatAWorkerMayDrawOfOthers(t *testing.T) {
	s := on(t, 9, stock{"n": count(math.MaxInt64 - 3), "s": set(4, "a"), "u": sum()})
	c := api.Config{Workers: 2, Seed: 1, Room: 9}
	checkLate(t, "a Count", c, s, cold(), lotOf(of(plus("n", 2)), of(plus("n", 1)), of(plus("n", math.MinInt64/2))))
	checkLate(t, "a Count, one more", c, s, cold(), lotOf(of(plus("n", 2)), of(plus("n", 2))), 1)
	checkLate(t, "a Count, all at once", c, s, cold(), lotOf(of(plus("n", math.MinInt64))), 0)
	checkLate(t, "a Set", c, s, cold(), lotOf(of(join("s", "b"), join("s", "a")), of(join("s", "b")), of(join("s", "c"))))
	checkLate(t, "a Set, one more", c, s, cold(), lotOf(of(join("s", "b")), of(join("s", "b"), join("s", "b"))), 1)
	checkLate(t, "a Sum", c, s, cold(), lotOf(of(add("u"), api.Act{Kind: act.Add, Key: "u", N: math.MaxInt64}), of(add("u"))))
}

// TestActsThatDontSplit: upon a split key they are late; what is behind them is early, if it may change places with them.
func TestActsThatDontSplit(t *testing.T) {
	s := on(t, 9, stock{"a": sum(), "p": purse(5, 10)})
	all := slices.Repeat([]api.Deal{of(add("a"))}, 4)
	for _, a := range []api.Act{look("a"), create("a"), drop("a")} {
		checkLate(t, act.Name(a.Kind), two(), s, cold(), lotOf(slices.Insert(slices.Clone(all), 1, of(a))...), 1, 2, 3, 4)
	}
	for _, a := range []api.Act{is("a"), put("a"), plus("a", 1), in("a", 1)} {
		checkLate(t, act.Name(a.Kind), two(), s, cold(), lotOf(slices.Insert(slices.Clone(all), 1, of(a))...), 1)
	}
	// What can be drawn behind one that can't is drawn.
	checkLate(t, "drawn behind", two(), s, cold(), lotOf(of(is("p")), of(in("p", 3)), of(in("p", 2)), of(is("p")), of(in("p", 1))), 0, 3, 4)
}

// TestBehindLateOnes: a deal that conflicts with a late one is late, upon whatever key, and so on from deal to deal.
func TestBehindLateOnes(t *testing.T) {
	s := on(t, 9, stock{"a": sum(), "b": text(), "c": text(), "d": text()})
	checkLate(t, "from key to key", two(), s, cold(), lotOf(
		of(add("a")), of(look("a"), put("b")), of(put("d")), of(look("b"), look("c")), of(look("c")), of(put("c")), of(look("d")), of(look("c"))),
		1, 3, 5, 7)
	checkLate(t, "ahead of it none waits", two(), s, cold(), lotOf(of(put("b")), of(add("a")), of(look("b")), of(look("a"), look("b"))), 3)
	checkLate(t, "both New or Drop", two(), s, cold(), lotOf(of(create("x")), of(is("a"), create("y")), of(drop("b")), of(put("c")), of(add("a"))), 1, 2)
	// With an early one a deal may conflict.
	checkLate(t, "behind early ones", two(), s, cold(), lotOf(of(add("a"), put("b")), of(add("a"), put("b")), of(look("b"))))
}

// TestAllOrNothingIsDrawn: of several keys; what was drawn ahead of the one that can't be is there yet.
func TestAllOrNothingIsDrawn(t *testing.T) {
	s := on(t, 9, stock{"p": purse(5, 10), "q": purse(5, 10), "u": sum()})
	c := api.Config{Workers: 2, Seed: 1, Room: 9}
	checkLate(t, "the second key", c, s, cold(), lotOf(of(in("p", 3), in("q", 4))), 0)
	checkLate(t, "the first key", c, s, cold(), lotOf(of(in("p", 4), in("q", 3))), 0)
	checkLate(t, "both", c, s, cold(), lotOf(of(in("p", 3), in("q", 3), out("p", 3), out("q", 3), add("u"))))
	checkLate(t, "one of them is taken", c, s, cold(), lotOf(of(in("p", 3)), of(in("q", 2)), of(in("q", 3), out("p", 3)), of(in("q", 1), in("p", 1))), 3)
}

func TestSigma(t *testing.T) {
	for _, w := range []struct{ early, late, want []int }{
		{nil, nil, nil},
		{[]int{0, 1, 2}, nil, []int{0, 1, 2}},
		{nil, []int{0, 1}, []int{0, 1}},
		{[]int{1, 4}, []int{0, 2, 3}, []int{1, 4, 0, 2, 3}},
		{[]int{7, 7, -1}, []int{math.MaxInt, 3}, []int{7, 7, -1, math.MaxInt, 3}},
	} {
		if got := (Plan{Early: w.early, Late: w.late, Split: []string{"a"}, Worker: []int{9}}).Sigma(); !slices.Equal(got, w.want) {
			t.Errorf("%v, %v: %v", w.early, w.late, got)
		}
	}
}

// Many lots

// chances: numbers that look like chance, and are the same each time.
func chances(seed uint64) func(int) int {
	return func(n int) int {
		seed ^= seed << 13
		seed ^= seed >> 7
		seed ^= seed << 17
		return int(seed % uint64(n))
	}
}

// someRecord: a record of some kind.
func someRecord(next func(int) int) api.Record {
	r := plain()[1+next(9)]
	switch r.Kind {
	case rec.Count:
		r.Num = []int64{0, math.MaxInt64 - 5, math.MinInt64 + 4}[next(3)]
	case rec.Purse:
		r.High = int64(5 + next(20))
	case rec.Set:
		r.Cap = 1 + next(8)
	}
	return r
}

// someAct: an act that may be, mostly one that fits the record that is there.
func someAct(next func(int) int, s shelf.Shelf, key string) api.Act {
	kinds := []int{act.Add, act.Plus, act.In, act.Out, act.Raise, act.Lower, act.Join, act.Offer}
	r, there := s.Get(key)
	if there && next(4) > 0 {
		kinds = slices.DeleteFunc(kinds, func(k int) bool { return act.On(k) != r.Kind })
	}
	k := 1 + next(act.Kinds-1)
	if len(kinds) > 0 && next(6) > 0 {
		k = kinds[next(len(kinds))]
	}
	a := api.Act{Kind: k, Key: key, Must: next(4) == 0}
	if act.Field(k, 'n') {
		a.N = int64(next(4))
	}
	if k == act.Plus && next(2) == 0 {
		a.N = -a.N
	}
	if act.Field(k, 'x') {
		a.X = float64(next(5) - 2)
	}
	if act.Field(k, 's') {
		a.S = string(rune('a' + next(6)))
	}
	if act.Field(k, 'm') {
		a.Make = someRecord(next)
	}
	return a
}

// world is what a lot is planned for.
type world struct {
	c api.Config
	s shelf.Shelf
	h *heat.Heat
	l api.Lot
}

func someWorld(t *testing.T, next func(int) int) world {
	t.Helper()
	keys := []string{"a", "b", "c", "d", "e"}[:1+next(5)]
	records := stock{}
	for _, key := range keys {
		if next(5) > 0 {
			records[key] = someRecord(next)
		}
	}
	room := max(1, len(records)+next(3))
	w := world{c: api.Config{Workers: 1 + next(4), Hot: next(4), Seed: next(99), Room: room}, s: on(t, room, records), h: &heat.Heat{}}
	w.l.Number = 1 + next(50)
	for range 1 + next(10) {
		var d api.Deal
		for range 1 + next(3) {
			d.Acts = append(d.Acts, someAct(next, w.s, keys[next(len(keys))]))
		}
		w.l.Deals = append(w.l.Deals, d)
	}
	w.h.Note(api.Lot{Deals: w.l.Deals[:next(len(w.l.Deals))]})
	return w
}

// slowMake: the plan, told once more: for each deal all escrows are made anew, and drawn of by all early ones ahead.
func slowMake(w world) Plan {
	p := Plan{Split: Split(w.c, w.s, w.h, w.l)}
	for i, d := range w.l.Deals {
		late := false
		for _, j := range p.Late {
			late = late || deal.Conflict(w.l.Deals[j], d)
		}
		for _, key := range p.Split {
			r, _ := w.s.Get(key)
			e, _ := share.New(r, w.c.Workers)
			for _, j := range append(slices.Clone(p.Early), i) {
				acts := slices.Clone(w.l.Deals[j].Acts)
				mine := slices.DeleteFunc(acts, func(a api.Act) bool { return a.Key != key })
				late = e.Draw(slowWorker(w.c, w.l.Number, j), mine...) != api.OK || late
			}
		}
		if late {
			p.Late, p.Worker = append(p.Late, i), append(p.Worker, -1)
		} else {
			p.Early, p.Worker = append(p.Early, i), append(p.Worker, slowWorker(w.c, w.l.Number, i))
		}
	}
	return p
}

// refusals: whether an act of these deals upon some keys is answered an error, also in a deal that is refused by then.
func refusals(s shelf.Shelf, l []api.Deal, order []int, counts func(i int, key string) bool) bool {
	some := false
	for _, i := range order {
		now := s
		for _, a := range l[i].Acts {
			var answer api.Answer
			now, answer = fold.Act(now, a)
			some = some || answer.Code != api.OK && counts(i, a.Key)
			if a.Must && answer.Code != api.OK {
				break
			}
		}
		s, _ = fold.One(s, l[i])
	}
	return some
}

func numbers(n int) []int {
	var l []int
	for i := range n {
		l = append(l, i)
	}
	return l
}

// TestManyLots: P13.3 held against a second telling, P13.4 and P13.5 against layer 10.
func TestManyLots(t *testing.T) {
	next := chances(88172645463325252)
	seen := map[string]int{}
	for range 10000 {
		w := someWorld(t, next)
		p, e := Make(w.c, w.s, w.h, w.l)
		if e != api.OK || !samePlan(p, slowMake(w)) {
			t.Fatalf("%+v: %v, %+v, not %+v", w, e, p, slowMake(w))
		}
		if p.Sigma() == nil || !slices.Equal(p.Sigma(), append(slices.Clone(p.Early), p.Late...)) {
			t.Fatalf("%+v: %v", p, p.Sigma())
		}
		serial(t, w, p)
		early(t, w, p)
		seen["all"]++
		if len(p.Split) > 0 {
			seen["split"]++
		}
		if !slices.IsSorted(p.Sigma()) {
			seen["out of order"]++
		}
	}
	for _, what := range []string{"split", "out of order"} {
		if seen[what]*20 < seen["all"] {
			t.Errorf("too few are %s: %v", what, seen)
		}
	}
}

// serial: P13.4.
func serial(t *testing.T, w world, p Plan) {
	t.Helper()
	one, ones := fold.Order(w.s, w.l.Deals, p.Sigma()...)
	other, others := fold.Run(w.s, w.l.Deals...)
	if !shelf.Same(one, other) || !slices.EqualFunc(ones, others, deal.Alike) {
		t.Fatalf("%+v, %+v: %+v, not %+v", w, p, ones, others)
	}
}

// early: P13.5.
func early(t *testing.T, w world, p Plan) {
	t.Helper()
	counts := func(i int, key string) bool { return slices.Contains(p.Early, i) && slices.Contains(p.Split, key) }
	for _, i := range p.Early {
		for _, a := range w.l.Deals[i].Acts {
			if r, _ := w.s.Get(a.Key); counts(i, a.Key) && !share.Splits(r.Kind, a.Kind) {
				t.Fatalf("%+v, %+v: %d doesn't split %q", w, p, i, a.Key)
			}
		}
	}
	for _, order := range [][]int{p.Sigma(), numbers(len(w.l.Deals))} {
		if refusals(w.s, w.l.Deals, order, counts) {
			t.Fatalf("%+v, %+v: one is refused", w, p)
		}
	}
}

// TestFullLots: 32 deals of one act each, upon one key, by each number of workers.
func TestFullLots(t *testing.T) {
	for workers := 2; workers <= 8; workers++ {
		w := world{c: api.Config{Workers: workers, Seed: 5, Room: 1}, s: on(t, 1, stock{"p": purse(20, 40)}), h: cold(), l: api.Lot{Number: m40}}
		for i := range 32 {
			w.l.Deals = append(w.l.Deals, of(in("p", int64(i%3))))
		}
		p, e := Make(w.c, w.s, w.h, w.l)
		if e != api.OK || !samePlan(p, slowMake(w)) {
			t.Errorf("%d: %v, %+v", workers, e, p)
		}
		if len(p.Late) == 0 || len(p.Early) < 4 {
			t.Errorf("%d: %+v", workers, p)
		}
		serial(t, w, p)
		early(t, w, p)
	}
}

// P1

func TestRawArguments(t *testing.T) {
	ints := []int{math.MinInt, -m40, -9, -1, 0, 1, 2, 8, 9, 4096, m40 + 1, math.MaxInt}
	nan := math.Float64frombits(0xFFF8000000000003)
	wrong := []api.Lot{
		{},
		{Number: -1, Deals: []api.Deal{{}, of(api.Act{}), of(api.Act{Kind: math.MinInt, Key: "a"}, api.Act{Kind: math.MaxInt, Key: "a"})}},
		{Number: math.MaxInt, Deals: slices.Repeat([]api.Deal{of(in("p", -4), in("p", math.MinInt64), plus("n", 5), add(""), api.Act{Kind: act.Join, Key: "s", S: strings.Repeat("x", 99)})}, 50)},
		{Deals: []api.Deal{of(api.Act{Kind: act.Raise, Key: "k", X: nan}, api.Act{Kind: act.New, Key: "z", Make: api.Record{Kind: 99, Real: nan}})}},
	}
	s := on(t, 9, stock{"a": sum(), "p": purse(1, 2), "n": count(0), "s": set(2), "k": {Kind: rec.Peak}})
	for _, a := range ints {
		for _, b := range ints {
			Worker(api.Config{Workers: a, Seed: b}, b, a)
			Worker(api.Config{Workers: a}, b, b)
			for _, l := range wrong {
				c := api.Config{Workers: a, Hot: b, Seed: b, Room: a}
				Split(c, s, hot("a", 1), l)
				Split(c, shelf.Shelf{}, cold(), l)
				if _, e := Make(c, s, cold(), l); e == api.OK {
					t.Errorf("%+v, %+v", c, l)
				}
			}
		}
	}
}

// P2

// roomy: deals with spare room behind them and behind their acts and lists, and all of these, spare room too.
func roomy() (api.Lot, func() api.Lot) {
	list := []api.Item{{Name: "a"}, {Name: "b"}, {Name: "spare"}}
	acts := []api.Act{in("p", 1), {Kind: act.New, Key: "x", Make: api.Record{Kind: rec.Set, Cap: 2, List: list[:2]}}, add("b"), add("a"), look("spare")}
	deals := []api.Deal{{Acts: acts[:3]}, {Acts: acts[3:4]}, {Acts: acts[4:]}}
	all := func() api.Lot {
		var l api.Lot
		for _, d := range deals {
			l.Deals = append(l.Deals, deal.Clone(api.Deal{Acts: d.Acts[:cap(d.Acts)]}))
		}
		l.Deals = append(l.Deals, of(join("x", list[2].Name)))
		return l
	}
	return api.Lot{Number: 3, Deals: deals[:2]}, all
}

func TestArgumentsAreLeft(t *testing.T) {
	s, h := on(t, 9, stock{"a": sum(), "p": purse(5, 10)}), hot("a", 3)
	l, all := roomy()
	was := all()
	Split(two(), s, h, l)
	p, e := Make(two(), s, h, l)
	if e != api.OK || !slices.Equal(p.Split, []string{"a", "p"}) {
		t.Fatal(e, p)
	}
	if !lot.Same(all(), was) || h.Score("a") != 3 || h.Len() != 1 || !shelf.Same(s, on(t, 9, stock{"a": sum(), "p": purse(5, 10)})) {
		t.Error("changed")
	}
	l.Deals[0].Acts[0].Key = "z"
	l.Deals[1] = api.Deal{}
	if !samePlan(p, Plan{Split: []string{"a", "p"}, Early: []int{0, 1}, Worker: []int{1, 0}}) {
		t.Error("kept", p)
	}
}

func TestAnswersAreNewMemory(t *testing.T) {
	s, h := on(t, 9, stock{"a": sum(), "b": sum()}), cold()
	l := lotOf(of(add("a")), of(look("a")), of(add("b")))
	want := Plan{Split: []string{"a", "b"}, Early: []int{0, 2}, Late: []int{1}, Worker: []int{1, -1, 1}}
	one, _ := Make(two(), s, h, l)
	keys := Split(two(), s, h, l)
	clear(one.Split[:cap(one.Split)])
	clear(one.Early[:cap(one.Early)])
	if !slices.Equal(one.Late, want.Late) || !slices.Equal(one.Worker, want.Worker) {
		t.Error("lists of one answer share memory", one)
	}
	if !slices.Equal(keys, want.Split) {
		t.Error("two answers share memory", keys)
	}
	makes(t, "asked again", two(), s, h, l, want)
}

func TestSigmaIsNewMemory(t *testing.T) {
	some, others := []int{0, 2, 9, 9}, []int{1, 3, 9}
	for _, p := range []Plan{{Early: some[:2], Late: others[:2]}, {Early: some[:2]}, {Late: others[:2]}} {
		one, two := p.Sigma(), p.Sigma()
		want := slices.Clone(two)
		clear(one[:cap(one)])
		if !slices.Equal(two, want) {
			t.Error("two answers share memory", two)
		}
	}
	if !slices.Equal(some, []int{0, 2, 9, 9}) || !slices.Equal(others, []int{1, 3, 9}) {
		t.Error("changed", some, others)
	}
}

// TestPlansHangOnNothingElse: not on how often, or of what else, a plan was asked for.
func TestPlansHangOnNothingElse(t *testing.T) {
	next := chances(12345)
	var worlds []world
	var first []Plan
	for range 50 {
		w := someWorld(t, next)
		p, _ := Make(w.c, w.s, w.h, w.l)
		worlds, first = append(worlds, w), append(first, p)
	}
	for range 20 {
		for i, w := range worlds {
			if p, _ := Make(w.c, w.s, w.h, w.l); !samePlan(p, first[i]) {
				t.Fatalf("%+v: %+v, not %+v", w, p, first[i])
			}
		}
	}
}
