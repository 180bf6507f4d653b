package crew

import (
	"math"
	"slices"
	"strings"
	"testing"

	"moiety/act"
	"moiety/api"
	"moiety/deal"
	"moiety/fold"
	"moiety/heat"
	"moiety/plan"
	"moiety/rec"
	"moiety/shelf"
)

const m40 = 1 << 40

// stock is records by keys, as tests keep them.
type stock map[string]api.Record

// on: a shelf with room, and these records.
func on(t *testing.T, room int, l stock) shelf.Shelf {
	t.Helper()
	s, e := shelf.New(room)
	for key, r := range l {
		if e == api.OK {
			s, e = s.Set(key, r)
		}
	}
	if e != api.OK {
		t.Fatalf("%d, %v: %v", room, l, e)
	}
	return s
}

func of(l ...api.Act) api.Deal { return api.Deal{Acts: l} }

// lotOf: a lot of the number 2, whose deals are done by two workers by turns, from worker 0 on.
func lotOf(l ...api.Deal) api.Lot { return api.Lot{Number: 2, Deals: l} }

// two: a config of two workers, by which everything is split that can be.
func two() api.Config { return api.Config{Workers: 2, Room: 9} }

// unsplit: one of some workers, by which nothing is split.
func unsplit(workers int) api.Config {
	return api.Config{Workers: workers, Hot: plan.MaxHot, Room: 9}
}

// must: an act that must be.
func must(a api.Act) api.Act {
	a.Must = true
	return a
}

func create(key string, r api.Record) api.Act { return api.Act{Kind: act.New, Key: key, Make: r} }
func drop(key string) api.Act                 { return api.Act{Kind: act.Drop, Key: key} }
func look(key string) api.Act                 { return api.Act{Kind: act.Look, Key: key} }
func add(key string, n int64) api.Act         { return api.Act{Kind: act.Add, Key: key, N: n} }
func plus(key string, n int64) api.Act        { return api.Act{Kind: act.Plus, Key: key, N: n} }
func in(key string, n int64) api.Act          { return api.Act{Kind: act.In, Key: key, N: n} }
func out(key string, n int64) api.Act         { return api.Act{Kind: act.Out, Key: key, N: n} }
func join(key, s string) api.Act              { return api.Act{Kind: act.Join, Key: key, S: s} }

func sum(n int64) api.Record   { return api.Record{Kind: rec.Sum, Num: n} }
func count(n int64) api.Record { return api.Record{Kind: rec.Count, Num: n} }
func purse(n int64) api.Record { return api.Record{Kind: rec.Purse, Num: n, High: 10} }
func set(names ...string) api.Record {
	r := api.Record{Kind: rec.Set, Cap: 6}
	for _, name := range names {
		r.List = append(r.List, api.Item{Name: name})
	}
	return r
}

// begin: a crew with a Heat that has no marks.
func begin(t *testing.T, c api.Config, s shelf.Shelf, l api.Lot) *Crew {
	t.Helper()
	x, e := New(c, s, &heat.Heat{}, l)
	if e != api.OK {
		t.Fatalf("%+v, %+v: %v", c, l, e)
	}
	return x
}

// step: that these workers, one behind the other, each take a step.
func step(t *testing.T, x *Crew, workers ...int) {
	t.Helper()
	for i, worker := range workers {
		was := x.Steps()
		if !x.Step(worker) || x.Steps() != was+1 {
			t.Fatalf("step %d of %v, by %d, wasn't taken, or not counted", i, workers, worker)
		}
	}
}

// still: that each of these workers takes none, and nothing changes.
func still(t *testing.T, x *Crew, workers ...int) {
	t.Helper()
	s, over, steps, done := x.Shelf(), x.Over(), x.Steps(), x.Done()
	for _, worker := range workers {
		if x.Step(worker) {
			t.Errorf("%d took a step", worker)
		}
	}
	if !shelf.Same(x.Shelf(), s) || !slices.Equal(x.Over(), over) || x.Steps() != steps || x.Done() != done {
		t.Errorf("%v changed something", workers)
	}
}

// has: that there are just these records by now, and these deals are over.
func has(t *testing.T, x *Crew, want stock, over ...int) {
	t.Helper()
	s := x.Shelf()
	if s.Len() != len(want) || !slices.Equal(x.Over(), over) {
		t.Errorf("%d records, over are %v; not %d, %v", s.Len(), x.Over(), len(want), over)
	}
	for key, r := range want {
		if got, ok := s.Get(key); !ok || !rec.Same(got, r) {
			t.Errorf("%q is %+v, %v; not %+v", key, got, ok, r)
		}
	}
}

// planned: that a crew's plan has these keys and these workers.
func planned(t *testing.T, x *Crew, split string, workers ...int) {
	t.Helper()
	p := x.Plan()
	if strings.Join(p.Split, " ") != split || !slices.Equal(p.Worker, workers) {
		t.Fatalf("%+v", p)
	}
}

// ended: that all is over, with what Run leaves of the shelf upon which it began.
func ended(t *testing.T, x *Crew, l ...api.Deal) {
	t.Helper()
	s, results := fold.Run(x.Begun(), l...)
	got, ok := x.Results()
	if !ok || !x.Done() || !slices.EqualFunc(got, results, deal.Alike) {
		t.Errorf("%v, %v, %+v, not %+v", x.Done(), ok, got, results)
	}
	if !shelf.Same(x.Shelf(), s) || x.Shelf().Room() != s.Room() || len(x.Over()) != len(l) {
		t.Errorf("not what Run leaves; over are %v", x.Over())
	}
	still(t, x, -1, 0, 1, 2, 3, 4, 5, 6, 7, 8)
}

// P16.1

func samePlan(a, b plan.Plan) bool {
	return slices.Equal(a.Split, b.Split) && slices.Equal(a.Early, b.Early) &&
		slices.Equal(a.Late, b.Late) && slices.Equal(a.Worker, b.Worker)
}

func TestNewTellsWhatIsWrong(t *testing.T) {
	fit, wrong := lotOf(of(add("a", 1))), lotOf(of(add("a", 1)), of(api.Act{}))
	c := two()
	for _, x := range []struct {
		name string
		c    api.Config
		l    api.Lot
		e    api.Errno
	}{
		{"the zero config", api.Config{}, fit, api.ErrRange},
		{"no workers", api.Config{Hot: 1, Room: 1}, fit, api.ErrRange},
		{"nine workers", api.Config{Workers: 9, Room: 1}, fit, api.ErrRange},
		{"too hot", api.Config{Workers: 1, Hot: plan.MaxHot + 1, Room: 1}, fit, api.ErrRange},
		{"a seed below 0", api.Config{Workers: 1, Seed: -1, Room: 1}, fit, api.ErrRange},
		{"no room", api.Config{Workers: 1}, fit, api.ErrRange},
		{"a config and a lot", api.Config{Workers: 1}, wrong, api.ErrRange},
		{"the number 0", c, api.Lot{Deals: fit.Deals}, api.ErrRange},
		{"too many deals", c, lotOf(slices.Repeat(fit.Deals, 33)...), api.ErrFull},
		{"an act of no kind", c, wrong, api.ErrKind},
		{"a deal of no acts", c, lotOf(api.Deal{}), api.ErrRange},
		{"an amount below 0", c, lotOf(of(in("p", -1))), api.ErrRange},
		{"a long text", c, lotOf(of(api.Act{Kind: act.Put, Key: "a", S: strings.Repeat("x", 65)})), api.ErrLong},
	} {
		s, h := on(t, 9, stock{"a": sum(1)}), &heat.Heat{}
		_, want := plan.Make(x.c, s, h, x.l)
		if got, e := New(x.c, s, h, x.l); e != x.e || e != want || got != nil {
			t.Errorf("%s: %v, %v", x.name, e, got)
		}
	}
}

// TestPlanIsMakes: by that shelf, that Heat and that config.
func TestPlanIsMakes(t *testing.T) {
	s := on(t, 9, stock{"a": sum(1), "b": sum(2), "p": purse(5)})
	l := lotOf(of(add("a", 1)), of(look("a")), of(out("p", 2)), of(out("p", 9)), of(add("b", 1)))
	h := &heat.Heat{}
	h.Note(lotOf(of(add("a", 1), add("a", 1), add("b", 1))))
	seen := map[string]int{}
	for workers := 1; workers <= 8; workers++ {
		for hot := range 5 {
			c := api.Config{Workers: workers, Hot: hot, Seed: hot, Room: 9}
			want, _ := plan.Make(c, s, h, l)
			x, e := New(c, s, h, l)
			if e != api.OK || !samePlan(x.Plan(), want) {
				t.Fatalf("%+v: %v, %+v, not %+v", c, e, x.Plan(), want)
			}
			seen[strings.Join(want.Split, "")]++
			for range 20 {
				x.Step(hot)
				x.Step(0)
			}
			if !samePlan(x.Plan(), want) || !shelf.Same(x.Begun(), s) || x.Begun().Room() != 9 {
				t.Errorf("%+v: changed while it was done", c)
			}
		}
	}
	if len(seen) != 3 || h.Score("a") != 2 || h.Len() != 2 {
		t.Error(seen, h.All())
	}
}

// TestHeatOnlyAtFirst: marks that are made behind New change nothing of it.
func TestHeatOnlyAtFirst(t *testing.T) {
	c, s, l := api.Config{Workers: 2, Hot: 3, Room: 9}, on(t, 9, stock{"a": sum(1)}), lotOf(of(add("a", 1)), of(add("a", 1)))
	h := &heat.Heat{}
	x, _ := New(c, s, h, l)
	h.Note(l)
	planned(t, x, "", 0, 1)
	still(t, x, 1)
	y, _ := New(c, s, h, l)
	planned(t, y, "a", 0, 1)
	step(t, y, 1, 1, 0, 0)
	ended(t, y, l.Deals...)
}

func TestAsItBegins(t *testing.T) {
	l := stock{"a": sum(1), "p": purse(2)}
	s := on(t, 7, l)
	x := begin(t, two(), s, lotOf(of(add("a", 1)), of(look("p"))))
	has(t, x, l)
	r, ok := x.Results()
	if x.Steps() != 0 || x.Done() || ok || r != nil || x.Begun().Room() != 7 || x.Shelf().Room() != 7 {
		t.Error(x.Steps(), x.Done(), r, ok)
	}
}

// P16.2

func TestTheDocumentsExample(t *testing.T) {
	l := []api.Deal{of(add("a", 1)), of(add("a", 1))}
	for _, order := range [][]int{{0, 0, 1, 1}, {0, 1, 0, 1}, {0, 1, 1, 0}, {1, 0, 0, 1}, {1, 0, 1, 0}, {1, 1, 0, 0}} {
		x := begin(t, two(), on(t, 1, stock{"a": sum(5)}), lotOf(l...))
		planned(t, x, "a", 0, 1)
		step(t, x, order...)
		ended(t, x, l...)
	}
}

func TestWorkersThatThereAreNot(t *testing.T) {
	l := slices.Repeat([]api.Deal{of(add("a", 1))}, 16)
	for workers := 1; workers <= 8; workers++ {
		x := begin(t, api.Config{Workers: workers, Hot: 1, Room: 9}, on(t, 1, stock{"a": sum(0)}), lotOf(l...))
		none := []int{math.MinInt, -m40, -9, -2, -1, workers, workers + 1, 9, m40, math.MaxInt}
		for !x.Done() {
			still(t, x, none...)
			for worker := range workers {
				x.Step(worker)
			}
		}
		still(t, x, none...)
		ended(t, x, l...)
	}
	// Late deals are done by workers that there are alone, too.
	x := begin(t, two(), on(t, 1, stock{"a": sum(0)}), lotOf(of(drop("a")), of(add("a", 1))))
	planned(t, x, "a", -1, -1)
	still(t, x, -1, 2, math.MinInt, math.MaxInt)
	step(t, x, 1)
	still(t, x, -1, 2, math.MinInt, math.MaxInt)
}

// TestOnlyItsOwn: a worker does its own early deals, in their order; without one left it waits for the others.
func TestOnlyItsOwn(t *testing.T) {
	l := []api.Deal{of(add("a", 1)), of(add("b", 1)), of(add("c", 1)), of(add("d", 1)), of(add("e", 1))}
	all := stock{"a": sum(0), "b": sum(0), "c": sum(0), "d": sum(0), "e": sum(0)}
	x := begin(t, unsplit(2), on(t, 9, all), lotOf(l...))
	planned(t, x, "", 0, 1, 0, 1, 0)
	step(t, x, 1, 1)
	all["b"] = sum(1)
	has(t, x, all, 1)
	step(t, x, 1, 1)
	all["d"] = sum(1)
	has(t, x, all, 1, 3)
	still(t, x, 1)
	step(t, x, 0, 0, 0)
	all["a"] = sum(1)
	has(t, x, all, 0, 1, 3)
	still(t, x, 1)
	step(t, x, 0, 0)
	still(t, x, 1)
	step(t, x, 0)
	ended(t, x, l...)
}

// TestNoEarlyOneOfItsOwn: a worker that has none at all waits, and then does late ones.
func TestNoEarlyOneOfItsOwn(t *testing.T) {
	l := []api.Deal{of(plus("n", 1)), of(look("n")), of(plus("n", 1))}
	x := begin(t, api.Config{Workers: 3, Room: 9}, on(t, 9, stock{"n": count(0)}), api.Lot{Number: 3, Deals: l})
	planned(t, x, "n", 0, -1, -1)
	still(t, x, 1, 2)
	step(t, x, 0)
	still(t, x, 2, 1)
	step(t, x, 0, 2, 1)
	ended(t, x, l...)
}

// TestDealsThatWait: for those ahead that they meet, until these are committed.
func TestDealsThatWait(t *testing.T) {
	l := []api.Deal{of(add("a", 1), add("b", 1)), of(add("a", 1), look("b")), of(add("c", 1)), of(look("b"), look("c"))}
	x := begin(t, unsplit(4), on(t, 9, stock{"a": sum(0), "b": sum(0), "c": sum(0)}), api.Lot{Number: 4, Deals: l})
	planned(t, x, "", 0, 3, 2, 1)
	still(t, x, 3, 1)
	step(t, x, 0, 0)
	still(t, x, 3, 1)
	step(t, x, 0)
	has(t, x, stock{"a": sum(1), "b": sum(1), "c": sum(0)}, 0)
	still(t, x, 0, 1)
	step(t, x, 3, 2)
	still(t, x, 1)
	step(t, x, 2, 1, 3, 1, 3)
	has(t, x, stock{"a": sum(2), "b": sum(1), "c": sum(1)}, 0, 1, 2)
	step(t, x, 1)
	ended(t, x, l...)
}

// TestOneThatWaitsHoldsItsWorker: also from deals behind it that would be Ready.
func TestOneThatWaitsHoldsItsWorker(t *testing.T) {
	l := []api.Deal{of(add("a", 1)), of(add("a", 1)), of(add("b", 1)), of(add("c", 1))}
	x := begin(t, unsplit(2), on(t, 9, stock{"a": sum(0), "b": sum(0), "c": sum(0)}), lotOf(l...))
	planned(t, x, "", 0, 1, 0, 1)
	still(t, x, 1)
	step(t, x, 0)
	still(t, x, 1)
	step(t, x, 0, 1, 1, 1, 0, 0, 1)
	ended(t, x, l...)
}

// TestSplitKeysAreInNobodysWay: but their deals' other keys are.
func TestSplitKeysAreInNobodysWay(t *testing.T) {
	l := []api.Deal{of(add("a", 1)), of(add("a", 2), add("b", 1)), of(add("a", 4), look("b"))}
	x := begin(t, api.Config{Workers: 3, Hot: 2, Room: 9}, on(t, 9, stock{"a": sum(0), "b": sum(0)}), api.Lot{Number: 3, Deals: l})
	planned(t, x, "a", 0, 1, 2)
	still(t, x, 2)
	step(t, x, 1, 1, 1)
	has(t, x, stock{"a": sum(2), "b": sum(1)}, 1)
	step(t, x, 2, 2, 2)
	has(t, x, stock{"a": sum(6), "b": sum(1)}, 1, 2)
	step(t, x, 0, 0)
	ended(t, x, l...)
}

// TestUponWhatIsThereByThen: a deal begins with its first step, not ahead of it.
func TestUponWhatIsThereByThen(t *testing.T) {
	l := []api.Deal{of(add("a", 1)), of(look("b")), of(out("p", 3), add("a", 1)), of(look("a"), look("p"))}
	x := begin(t, unsplit(2), on(t, 9, stock{"a": sum(0), "b": sum(7), "p": purse(3)}), lotOf(l...))
	step(t, x, 0, 0, 0, 0, 1, 1)
	still(t, x, 1)
	step(t, x, 0, 1, 1, 1)
	r, ok := x.Results()
	if !ok || r[3].Answers[0].Rec.Num != 2 || r[3].Answers[1].Rec.Num != 0 {
		t.Error(ok, r)
	}
	ended(t, x, l...)
}

// TestNothingIsThereAheadOfItsEnd: of a deal whose last act is done, and that isn't committed, either.
func TestNothingIsThereAheadOfItsEnd(t *testing.T) {
	l := []api.Deal{of(add("a", 1), create("x", sum(3)), drop("b"), add("c", 1))}
	was := stock{"a": sum(0), "b": sum(0), "c": sum(0)}
	x := begin(t, api.Config{Workers: 2, Hot: 1, Room: 9}, on(t, 9, was), lotOf(l...))
	planned(t, x, "a c", 0)
	for range 4 {
		has(t, x, was)
		step(t, x, 0)
	}
	has(t, x, was)
	step(t, x, 0)
	has(t, x, stock{"a": sum(1), "c": sum(1), "x": sum(3)}, 0)
	ended(t, x, l...)
}

// TestStepsOfRefusedDeals: one for each act up to that one, and one that commits; what is split is left, too.
func TestStepsOfRefusedDeals(t *testing.T) {
	for n := 1; n <= deal.MaxActs; n++ {
		for at := 1; at <= n; at++ {
			d := of(slices.Repeat([]api.Act{add("a", 1)}, n)...)
			d.Acts[at-1] = must(out("p", 6))
			l := []api.Deal{d, of(out("p", 5), add("a", 7))}
			x := begin(t, api.Config{Workers: 2, Hot: 3, Room: 9}, on(t, 9, stock{"a": sum(0), "p": purse(5)}), lotOf(l...))
			for range at {
				step(t, x, 0)
				still(t, x, 1)
				has(t, x, stock{"a": sum(0), "p": purse(5)})
			}
			step(t, x, 0)
			has(t, x, stock{"a": sum(0), "p": purse(5)}, 0)
			still(t, x, 0)
			step(t, x, 1, 1, 1)
			if x.Steps() != at+4 {
				t.Error(x.Steps(), "steps, not", at+4)
			}
			ended(t, x, l...)
		}
	}
}

// TestErrorsWithoutMust: such deals go on, and count.
func TestErrorsWithoutMust(t *testing.T) {
	l := []api.Deal{of(out("p", 9), add("none", 1), add("a", 1)), of(create("a", sum(1)), must(out("p", 5)))}
	x := begin(t, unsplit(2), on(t, 2, stock{"a": sum(0), "p": purse(5)}), lotOf(l...))
	still(t, x, 1)
	step(t, x, 0, 0, 0, 0, 1, 1, 1)
	ended(t, x, l...)
}

// TestReadersAtOnce: those that only read aren't in each other's way.
func TestReadersAtOnce(t *testing.T) {
	l := []api.Deal{of(look("a"), look("none")), of(look("a")), of(add("a", 1)), of(look("a"))}
	x := begin(t, unsplit(4), on(t, 2, stock{"a": sum(3)}), api.Lot{Number: 4, Deals: l})
	planned(t, x, "", 0, 3, 2, 1)
	step(t, x, 3, 0, 3)
	still(t, x, 2, 1)
	step(t, x, 0, 0)
	still(t, x, 1)
	step(t, x, 2)
	still(t, x, 1)
	step(t, x, 2, 1, 1)
	ended(t, x, l...)
}

// TestLateDeals: one step each, in their order, by whoever, once no early one is left.
func TestLateDeals(t *testing.T) {
	l := []api.Deal{of(plus("n", 1), plus("n", 1)), of(look("n"), plus("n", 2), look("n")), of(plus("n", 4)), of(must(out("none", 1)), look("none")), of(plus("n", 8), look("n"))}
	x := begin(t, two(), on(t, 9, stock{"n": count(0)}), lotOf(l...))
	planned(t, x, "n", 0, -1, -1, 1, -1)
	for range 2 {
		step(t, x, 0)
		has(t, x, stock{"n": count(0)})
	}
	step(t, x, 0)
	still(t, x, 0)
	has(t, x, stock{"n": count(2)}, 0)
	step(t, x, 1, 1)
	has(t, x, stock{"n": count(2)}, 0, 3)
	step(t, x, 1)
	has(t, x, stock{"n": count(4)}, 0, 1, 3)
	step(t, x, 1)
	has(t, x, stock{"n": count(8)}, 0, 1, 2, 3)
	if _, ok := x.Results(); ok || x.Done() || x.Steps() != 7 {
		t.Error("ended too early")
	}
	step(t, x, 0)
	ended(t, x, l...)
}

// TestAllLate: what is split is whole from the beginning on, and may go.
func TestAllLate(t *testing.T) {
	l := []api.Deal{of(add("a", 1), drop("a")), of(add("a", 2)), of(create("a", set("x"))), of(join("a", "y"), look("a"))}
	x := begin(t, two(), on(t, 9, stock{"a": sum(3)}), lotOf(l...))
	planned(t, x, "a", -1, -1, -1, -1)
	has(t, x, stock{"a": sum(3)})
	step(t, x, 0)
	has(t, x, nil, 0)
	step(t, x, 0)
	has(t, x, nil, 0, 1)
	step(t, x, 1)
	has(t, x, stock{"a": set("x")}, 0, 1, 2)
	step(t, x, 1)
	ended(t, x, l...)
}

// TestSplitRecordsThatGo: behind early ones a late one may drop what was split, and others make it anew.
func TestSplitRecordsThatGo(t *testing.T) {
	l := []api.Deal{of(add("a", 1)), of(look("a"), drop("a")), of(add("b", 2)), of(create("a", sum(40))), of(add("a", 2), look("a"))}
	x := begin(t, two(), on(t, 2, stock{"a": sum(3), "b": sum(0)}), lotOf(l...))
	planned(t, x, "a b", 0, -1, 0, -1, -1)
	step(t, x, 0, 0, 0)
	has(t, x, stock{"a": sum(4), "b": sum(0)}, 0)
	step(t, x, 0)
	has(t, x, stock{"a": sum(4), "b": sum(2)}, 0, 2)
	step(t, x, 1)
	has(t, x, stock{"b": sum(2)}, 0, 1, 2)
	step(t, x, 1)
	has(t, x, stock{"a": sum(40), "b": sum(2)}, 0, 1, 2, 3)
	step(t, x, 1)
	ended(t, x, l...)
}

// TestSlices: each worker has its own, until all records are whole again.
func TestSlices(t *testing.T) {
	l := []api.Deal{of(add("a", 1), add("b", 5)), of(add("a", 2)), of(add("a", 4)), of(look("a")), of(add("b", 8))}
	x := begin(t, two(), on(t, 2, stock{"a": sum(100), "b": sum(200)}), lotOf(l...))
	planned(t, x, "a b", 0, 1, 0, -1, 0)
	slice := func(key string, want ...int64) {
		t.Helper()
		for worker, n := range want {
			if got := x.split[key][worker]; !rec.Same(got, sum(n)) {
				t.Errorf("%d's slice of %s: %+v, not %d", worker, key, got, n)
			}
		}
	}
	step(t, x, 1, 1)
	slice("a", 0, 2)
	step(t, x, 0, 0, 0, 0, 0)
	slice("a", 5, 2)
	slice("b", 5, 0)
	step(t, x, 0, 0)
	if len(x.split) != 0 {
		t.Error("split yet", x.split)
	}
	step(t, x, 1)
	ended(t, x, l...)
	x = begin(t, two(), on(t, 2, stock{"a": sum(100)}), lotOf(of(drop("a")), of(add("a", 1))))
	planned(t, x, "a", -1, -1)
	if len(x.split) != 0 {
		t.Error("split with no early deals", x.split)
	}
}

// TestEachKindSplit: acts of every kind that splits, upon slices of several workers, in many orders.
func TestEachKindSplit(t *testing.T) {
	next := chances(42)
	for k, r := range []api.Record{
		act.Add:   sum(5),
		act.Plus:  count(math.MaxInt64 - 200),
		act.In:    {Kind: rec.Purse, High: 200, Num: 20},
		act.Out:   {Kind: rec.Purse, High: 200, Num: 190},
		act.Raise: {Kind: rec.Peak, Real: 1.5},
		act.Lower: {Kind: rec.Dip, Real: 1.5},
		act.Join:  {Kind: rec.Set, Cap: 20, List: []api.Item{{Name: "n1"}}},
		act.Offer: {Kind: rec.Top, Cap: 2, List: []api.Item{{Score: 1, Name: "n1"}}},
	} {
		if r.Kind == rec.None {
			continue
		}
		var l []api.Deal
		for range 8 {
			a := api.Act{Kind: k, Key: "k"}
			if act.Field(k, 'n') {
				a.N = int64(next(5))
			}
			if act.Field(k, 'x') {
				a.X = float64(next(9) - 4)
			}
			if act.Field(k, 's') {
				a.S = "n" + string(rune('0'+next(8)))
			}
			l = append(l, of(a, a))
		}
		for range 20 {
			w := world{c: api.Config{Workers: 4, Room: 1}, s: on(t, 1, stock{"k": r}), h: &heat.Heat{}, l: lotOf(l...)}
			x := held(t, w, func(int) int { return next(4) })
			if p := x.Plan(); len(p.Split) != 1 || len(p.Early) != 8 {
				t.Fatalf("%s: %+v", act.Name(k), p)
			}
		}
	}
}

// TestWithoutDeals: all is over from the beginning on.
func TestWithoutDeals(t *testing.T) {
	for workers := 1; workers <= 8; workers++ {
		l := stock{"a": sum(1)}
		x := begin(t, api.Config{Workers: workers, Room: 9}, on(t, 9, l), lotOf())
		planned(t, x, "")
		has(t, x, l)
		r, ok := x.Results()
		if !ok || len(r) != 0 || !x.Done() || x.Steps() != 0 {
			t.Error(r, ok, x.Done(), x.Steps())
		}
		ended(t, x)
	}
}

// P16.3: what is told at any time is held against a second telling, too, below.

func TestResultsOnlyAtTheEnd(t *testing.T) {
	l := []api.Deal{of(look("a")), of(must(out("a", 1))), of(look("b"))}
	x := begin(t, unsplit(1), on(t, 9, stock{"a": sum(1)}), lotOf(l...))
	for !x.Done() {
		if r, ok := x.Results(); ok || r != nil {
			t.Error(r, ok)
		}
		step(t, x, 0)
	}
	for range 2 {
		r, ok := x.Results()
		if !ok || len(r) != 3 || r[0].Answers[0].Rec.Num != 1 || r[1].Code != api.ErrKind || r[1].At != 1 || r[2].Answers[0].Code != api.ErrNone {
			t.Errorf("%v, %+v", ok, r)
		}
	}
}

// TestOverRises: whatever the order in which deals came to be over.
func TestOverRises(t *testing.T) {
	var l []api.Deal
	for range 8 {
		l = append(l, of(add("a", 1)))
	}
	x := begin(t, api.Config{Workers: 8, Room: 9}, on(t, 9, stock{"a": sum(0)}), api.Lot{Number: 8, Deals: l})
	planned(t, x, "a", 0, 7, 6, 5, 4, 3, 2, 1)
	var want []int
	for _, i := range []int{4, 1, 7, 0, 6, 2, 5, 3} {
		worker := (8 - i) % 8
		step(t, x, worker)
		has(t, x, stock{"a": sum(int64(len(want)))}, want...)
		step(t, x, worker)
		want = append(want, i)
		slices.Sort(want)
		has(t, x, stock{"a": sum(int64(len(want)))}, want...)
	}
	ended(t, x, l...)
}
