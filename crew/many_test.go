package crew

import (
	"math"
	"slices"
	"strings"
	"testing"

	"moiety/act"
	"moiety/api"
	"moiety/deal"
	"moiety/fold"
	"moiety/heat"
	"moiety/lot"
	"moiety/plan"
	"moiety/rec"
	"moiety/shelf"
)

// chances: a row of numbers that is the same in each run.
func chances(seed uint64) func(int) int {
	return func(n int) int {
		seed ^= seed << 13
		seed ^= seed >> 7
		seed ^= seed << 17
		return int(seed % uint64(n))
	}
}

// plain is a record of each kind that may be, by kind; the first is none.
func plain() []api.Record {
	return []api.Record{
		rec.Text:  {Kind: rec.Text, Text: "ab"},
		rec.Sum:   sum(3),
		rec.Count: count(0),
		rec.Purse: purse(5),
		rec.Peak:  {Kind: rec.Peak},
		rec.Dip:   {Kind: rec.Dip},
		rec.Level: {Kind: rec.Level},
		rec.Set:   set("a"),
		rec.Top:   {Kind: rec.Top, Cap: 2},
	}
}

// someRecord: a record of some kind.
func someRecord(next func(int) int) api.Record {
	r := plain()[1+next(rec.Kinds-1)]
	switch r.Kind {
	case rec.Count:
		r.Num = []int64{0, math.MaxInt64 - 9, math.MinInt64 + 7}[next(3)]
	case rec.Purse:
		r.High = int64(5 + next(40))
	case rec.Set:
		r.Cap = 1 + next(9)
	}
	return r
}

// someAct: an act that may be, mostly one that fits the record that is there, and often one that splits it.
func someAct(next func(int) int, s shelf.Shelf, key string) api.Act {
	kinds := []int{act.Add, act.Plus, act.In, act.Out, act.Raise, act.Lower, act.Join, act.Offer}
	r, there := s.Get(key)
	if there && next(4) > 0 {
		kinds = slices.DeleteFunc(kinds, func(k int) bool { return act.On(k) != r.Kind })
	}
	k := 1 + next(act.Kinds-1)
	if len(kinds) > 0 && next(6) > 0 {
		k = kinds[next(len(kinds))]
	}
	a := api.Act{Kind: k, Key: key, Must: next(4) == 0}
	if act.Field(k, 'n') {
		a.N = int64(next(4))
	}
	if k == act.Plus && next(2) == 0 {
		a.N = -a.N
	}
	if act.Field(k, 'x') {
		a.X = float64(next(5) - 2)
	}
	if act.Field(k, 's') {
		a.S = string(rune('a' + next(6)))
	}
	if act.Field(k, 'm') {
		a.Make = someRecord(next)
	}
	return a
}

// world is what a crew is made for.
type world struct {
	c api.Config
	s shelf.Shelf
	h *heat.Heat
	l api.Lot
}

// someConfig: how a lot is done, one way or another.
func someConfig(next func(int) int) api.Config {
	return api.Config{Workers: 1 + next(8), Hot: next(4), Seed: next(99), Room: 9}
}

func someWorld(t *testing.T, next func(int) int) world {
	t.Helper()
	keys := []string{"a", "b", "c", "d", "e", "f", "g"}[:1+next(7)]
	records := stock{}
	for _, key := range keys {
		if next(5) > 0 {
			records[key] = someRecord(next)
		}
	}
	w := world{c: someConfig(next), s: on(t, max(1, len(records)+next(2)), records), h: &heat.Heat{}}
	w.l.Number = 1 + next(50)
	deals, acts := 1+next(10), 1+next(4)
	if next(20) == 0 {
		deals, acts = lot.MaxDeals, 2
	}
	if next(20) == 0 {
		deals, acts = 1+next(4), deal.MaxActs
	}
	for range deals {
		var d api.Deal
		for range 1 + next(acts) {
			d.Acts = append(d.Acts, someAct(next, w.s, keys[next(len(keys))]))
		}
		w.l.Deals = append(w.l.Deals, d)
	}
	w.h.Note(api.Lot{Deals: w.l.Deals[:next(len(w.l.Deals))]})
	return w
}

// telling is a crew, told once more: it keeps but how many steps each deal has left, and works all else out anew.
type telling struct {
	w           world
	p           plan.Plan
	begun, over []bool
	left        []int
	steps       int
}

func tell(t *testing.T, w world) *telling {
	t.Helper()
	p, e := plan.Make(w.c, w.s, w.h, w.l)
	if e != api.OK {
		t.Fatalf("%+v: %v", w, e)
	}
	n := len(w.l.Deals)
	return &telling{w: w, p: p, begun: make([]bool, n), over: make([]bool, n), left: make([]int, n)}
}

// shelf: what Order leaves for those of Sigma that are over.
func (x *telling) shelf() shelf.Shelf {
	order := slices.DeleteFunc(x.p.Sigma(), func(i int) bool { return !x.over[i] })
	s, _ := fold.Order(x.w.s, x.w.l.Deals, order...)
	return s
}

func (x *telling) overs() []int {
	var l []int
	for i, over := range x.over {
		if over {
			l = append(l, i)
		}
	}
	return l
}

// first: the first of some deals that isn't over, and counts.
func (x *telling) first(l []int, counts func(i int) bool) int {
	for _, i := range l {
		if !x.over[i] && counts(i) {
			return i
		}
	}
	return -1
}

// waits: is there an early one ahead that isn't over, and meets it?
func (x *telling) waits(i int) bool {
	return x.first(x.p.Early, func(j int) bool {
		return j < i && deal.Meet(x.w.l.Deals[j], x.w.l.Deals[i], x.p.Split...)
	}) >= 0
}

func (x *telling) step(worker int) bool {
	anyone := func(int) bool { return true }
	late := x.first(x.p.Late, anyone)
	if worker < 0 || worker >= x.w.c.Workers || x.first(x.p.Early, anyone) < 0 && late < 0 {
		return false
	}
	if x.first(x.p.Early, anyone) < 0 {
		x.over[late] = true
		x.steps++
		return true
	}
	i := x.first(x.p.Early, func(i int) bool { return x.p.Worker[i] == worker })
	if i < 0 || !x.begun[i] && x.waits(i) {
		return false
	}
	if !x.begun[i] {
		x.begun[i] = true
		_, r := fold.One(x.shelf(), x.w.l.Deals[i])
		x.left[i] = len(x.w.l.Deals[i].Acts)
		if r.Code != api.OK {
			x.left[i] = r.At
		}
	} else {
		x.left[i]--
	}
	x.over[i] = x.left[i] == 0
	x.steps++
	return true
}

// held: a crew whose steps are taken by whom next says, each held against the second telling, until all are over.
func held(t *testing.T, w world, next func(taken int) int) *Crew {
	t.Helper()
	x, e := New(w.c, w.s, w.h, w.l)
	if e != api.OK {
		t.Fatalf("%+v: %v", w, e)
	}
	y := tell(t, w)
	for tries := 0; ; tries++ {
		done := len(y.overs()) == len(w.l.Deals)
		r, ok := x.Results()
		if x.Done() != done || ok != done || !ok && r != nil || x.Steps() != y.steps || !slices.Equal(x.Over(), y.overs()) {
			t.Fatalf("%+v, %+v: %v, %v, %d, %v; not %v, %d, %v", w, y.p, x.Done(), ok, x.Steps(), x.Over(), done, y.steps, y.overs())
		}
		if !shelf.Same(x.Shelf(), y.shelf()) {
			t.Fatalf("%+v, %+v: not what Order leaves behind %v", w, y.p, x.Over())
		}
		if done {
			break
		}
		worker := next(tries)
		if got, want := x.Step(worker), y.step(worker); got != want {
			t.Fatalf("%+v, %+v: %d: %v, not %v; over are %v", w, y.p, worker, got, want, x.Over())
		}
		if tries > 100000 {
			t.Fatalf("%+v, %+v: no end", w, y.p)
		}
	}
	ended(t, x, w.l.Deals...)
	return x
}

// orders: ways to say who takes the next step, some of which name workers that there aren't.
func orders(workers int, next func(int) int) []func(int) int {
	row := next(3)
	return []func(int) int{
		func(int) int { return next(workers) },
		func(int) int { return next(workers+2) - 1 },
		func(i int) int { return i % workers },
		func(i int) int { return workers - 1 - i%workers },
		// Rows of steps of the same one, so that some are far ahead of the others.
		func(i int) int { return i / (1 + row) / 3 % workers },
		func(int) int { return min(next(workers), next(workers), next(workers)) },
		func(int) int { return max(next(workers), next(workers), next(workers)) },
	}
}

// TestManyCrews: P16.2 to P16.4, held against a second telling and layer 10.
func TestManyCrews(t *testing.T) {
	next := chances(88172645463325252)
	seen := map[string]int{}
	for range 3000 {
		w := someWorld(t, next)
		l := orders(w.c.Workers, next)
		x := held(t, w, l[next(len(l))])
		p := x.Plan()
		seen["all"]++
		if len(p.Split) > 0 && len(p.Early) > 1 {
			seen["split"]++
		}
		if !slices.IsSorted(p.Sigma()) {
			seen["out of order"]++
		}
		if r, _ := x.Results(); slices.ContainsFunc(p.Early, func(i int) bool { return r[i].Code != api.OK }) {
			seen["refused early"]++
		}
	}
	for _, what := range []string{"split", "out of order", "refused early"} {
		if seen[what]*20 < seen["all"] {
			t.Errorf("too few are %s: %v", what, seen)
		}
	}
}

// P16.4

// TestByWhateverConfigHeatAndSteps: one lot, by many of them.
func TestByWhateverConfigHeatAndSteps(t *testing.T) {
	next := chances(521288629)
	for range 40 {
		w := someWorld(t, next)
		for range 8 {
			w.c = someConfig(next)
			w.h = &heat.Heat{}
			for range next(3) {
				w.h.Note(w.l)
			}
			for _, order := range orders(w.c.Workers, next) {
				held(t, w, order)
			}
		}
	}
}

// TestEachOrderOfSteps: a small lot, by each order that there is.
func TestEachOrderOfSteps(t *testing.T) {
	l := []api.Deal{of(out("p", 2), add("a", 1)), of(add("b", 1), out("p", 1)), of(add("c", 1)), of(look("c"), must(add("b", 1)))}
	for _, hot := range []int{0, 2, 9} {
		w := world{c: api.Config{Workers: 3, Hot: hot, Room: 9}, s: on(t, 9, stock{"a": sum(1), "b": sum(2), "c": sum(3), "p": purse(6)}), h: &heat.Heat{}, l: api.Lot{Number: 3, Deals: l}}
		ends := 0
		eachOrder(t, w, nil, &ends)
		if ends < 20 {
			t.Error(hot, ends)
		}
	}
}

// eachOrder: all steps that there are behind some.
func eachOrder(t *testing.T, w world, steps []int, ends *int) {
	t.Helper()
	x, _ := New(w.c, w.s, w.h, w.l)
	y := tell(t, w)
	for _, worker := range steps {
		if x.Step(worker) != y.step(worker) {
			t.Fatalf("%v: %d", steps, worker)
		}
	}
	if !shelf.Same(x.Shelf(), y.shelf()) || !slices.Equal(x.Over(), y.overs()) {
		t.Fatalf("%v: %v, not %v", steps, x.Over(), y.overs())
	}
	if x.Done() {
		ended(t, x, w.l.Deals...)
		*ends++
		return
	}
	// Late deals are done the same by whoever; one order of them will do.
	if y.first(y.p.Early, func(int) bool { return true }) < 0 {
		eachOrder(t, w, append(slices.Clone(steps), len(steps)%w.c.Workers), ends)
		return
	}
	for worker := range w.c.Workers {
		again, _ := New(w.c, w.s, w.h, w.l)
		for _, other := range steps {
			again.Step(other)
		}
		if again.Step(worker) {
			eachOrder(t, w, append(slices.Clone(steps), worker), ends)
		}
	}
}

// P16.5

func shuffled(n int, next func(int) int) []int {
	l := make([]int, n)
	for i := range l {
		l[i] = i
	}
	for i := range l {
		j := i + next(n-i)
		l[i], l[j] = l[j], l[i]
	}
	return l
}

// size: how many deals, and acts of deals, there are.
func size(l api.Lot) int {
	n := len(l.Deals)
	for _, d := range l.Deals {
		n += len(d.Acts)
	}
	return n
}

func TestRounds(t *testing.T) {
	next := chances(19650218)
	for range 2000 {
		w := someWorld(t, next)
		for way := range 3 {
			x, _ := New(w.c, w.s, w.h, w.l)
			for round := 0; round < size(w.l); round++ {
				order := shuffled(w.c.Workers, next)
				if way > 0 {
					slices.Sort(order)
				}
				if way > 1 {
					slices.Reverse(order)
				}
				was, done := x.Steps(), x.Done()
				for _, worker := range order {
					x.Step(worker)
				}
				if !done && x.Steps() == was {
					t.Fatalf("%+v: nothing in a round", w)
				}
			}
			if !x.Done() {
				t.Fatalf("%+v: not over behind %d rounds", w, size(w.l))
			}
			ended(t, x, w.l.Deals...)
		}
	}
}

// TestAsManyRoundsAsThereAre: one worker needs them all, if none is refused.
func TestAsManyRoundsAsThereAre(t *testing.T) {
	var l []api.Deal
	for i := range lot.MaxDeals {
		l = append(l, of(slices.Repeat([]api.Act{add("a", 1)}, 1+i%7)...))
	}
	all := lotOf(l...)
	x := begin(t, unsplit(1), on(t, 1, stock{"a": sum(0)}), all)
	for range size(all) {
		if x.Done() {
			t.Fatal("over behind", x.Steps())
		}
		step(t, x, 0)
	}
	ended(t, x, l...)
}

// P1

func TestRawArguments(t *testing.T) {
	ints := []int{math.MinInt, -m40, -9, -1, 0, 1, 2, 8, 9, 4096, m40 + 1, math.MaxInt}
	nan := math.Float64frombits(0xFFF8000000000003)
	lots := []api.Lot{
		{},
		lotOf(),
		lotOf(of(add("a", 1)), of(out("p", 3)), of(create("z", sum(1))), of(drop("a"))),
		{Number: -1, Deals: []api.Deal{{}, of(api.Act{}), of(api.Act{Kind: math.MinInt, Key: "a"})}},
		{Number: math.MaxInt, Deals: slices.Repeat([]api.Deal{of(in("p", -4), plus("n", 5), add("", 1), join("s", strings.Repeat("x", 99)))}, 50)},
		{Number: 1, Deals: []api.Deal{of(api.Act{Kind: act.Raise, Key: "k", X: nan}, create("z", api.Record{Kind: 99, Real: nan}))}},
	}
	for _, s := range []shelf.Shelf{{}, on(t, 9, stock{"a": sum(1), "p": purse(1), "n": count(0), "s": set()})} {
		for _, a := range ints {
			for _, b := range ints {
				for _, l := range lots {
					x, e := New(api.Config{Workers: a, Hot: b, Seed: b, Room: a}, s, &heat.Heat{}, l)
					if (e == api.OK) != (x != nil) {
						t.Fatal(e, x)
					}
					if e != api.OK {
						continue
					}
					for range size(l) {
						for _, worker := range ints {
							x.Step(worker)
						}
					}
				}
			}
		}
	}
}

// TestUponTheZeroShelf: one without room.
func TestUponTheZeroShelf(t *testing.T) {
	l := []api.Deal{of(create("a", sum(1)), look("a")), of(must(add("a", 1))), of(create("b", sum(1)))}
	x := begin(t, two(), shelf.Shelf{}, lotOf(l...))
	for !x.Done() {
		x.Step(1)
		x.Step(0)
	}
	ended(t, x, l...)
}

// P2

// roomy: a lot whose deals, acts and lists have spare room, and all of it, spare room too.
func roomy() (api.Lot, func() api.Lot) {
	list := []api.Item{{Name: "a"}, {Name: "b"}, {Name: "spare"}}
	made := api.Record{Kind: rec.Set, Cap: 4, List: list[:2]}
	acts := []api.Act{in("p", 1), create("x", made), look("x"), add("a", 1), drop("x"), create("x", made), look("x"), look("spare")}
	deals := []api.Deal{{Acts: acts[:3]}, {Acts: acts[3:4]}, {Acts: acts[4:7]}, {Acts: acts[7:]}}
	whole := func() api.Lot {
		var l api.Lot
		for _, d := range deals {
			l.Deals = append(l.Deals, deal.Clone(api.Deal{Acts: d.Acts[:cap(d.Acts)]}))
		}
		l.Deals = append(l.Deals, of(create("x", api.Record{List: slices.Clone(list)})))
		return l
	}
	return api.Lot{Number: 2, Deals: deals[:3]}, whole
}

// spoil: changes all of a list, its spare room too.
func spoil(l []api.Item) {
	l = l[:cap(l)]
	for i := range l {
		l[i] = api.Item{Score: -99, Name: "spoilt"}
	}
}

func TestArgumentsAreLeftAndNotKept(t *testing.T) {
	records := stock{"a": sum(0), "p": purse(5)}
	s, h := on(t, 9, records), &heat.Heat{}
	h.Note(lotOf(of(add("a", 1))))
	l, whole := roomy()
	was := whole()
	x, e := New(two(), s, h, l)
	y, _ := New(two(), s, h, l)
	for !y.Done() {
		y.Step(0)
		y.Step(1)
	}
	if e != api.OK || !slices.EqualFunc(whole().Deals, was.Deals, deal.Same) || h.Score("a") != 1 || h.Len() != 1 || !shelf.Same(s, on(t, 9, records)) {
		t.Error("changed", e)
	}
	kept := []api.Deal{deal.Clone(l.Deals[0]), deal.Clone(l.Deals[1]), deal.Clone(l.Deals[2])}
	spoil(l.Deals[0].Acts[1].Make.List)
	for i := range l.Deals {
		clear(l.Deals[i].Acts[:cap(l.Deals[i].Acts)])
		l.Deals[i] = api.Deal{}
	}
	for !x.Done() {
		x.Step(0)
		x.Step(1)
	}
	ended(t, x, kept...)
}

func TestAnswersAreNewMemory(t *testing.T) {
	l := []api.Deal{of(add("a", 1), look("s")), of(look("a")), of(look("s"), look("s"))}
	x := begin(t, two(), on(t, 9, stock{"a": sum(0), "s": set("x", "y")}), lotOf(l...))
	want := plan.Plan{Split: []string{"a"}, Early: []int{0, 2}, Late: []int{1}, Worker: []int{0, -1, 0}}
	p := x.Plan()
	if !samePlan(p, want) {
		t.Fatalf("%+v, not %+v", p, want)
	}
	clear(p.Split[:cap(p.Split)])
	clear(p.Early[:cap(p.Early)])
	if !slices.Equal(p.Late, want.Late) || !slices.Equal(p.Worker, want.Worker) {
		t.Error("lists of one answer share memory", p)
	}
	clear(p.Late[:cap(p.Late)])
	clear(p.Worker[:cap(p.Worker)])
	for !x.Done() {
		x.Step(0)
		x.Step(1)
		over := x.Over()
		clear(over[:cap(over)])
	}
	if !samePlan(x.Plan(), want) {
		t.Errorf("%+v, not %+v", x.Plan(), want)
	}
	one, _ := x.Results()
	other, _ := x.Results()
	spoil(one[2].Answers[0].Rec.List)
	if !rec.Same(one[2].Answers[1].Rec, set("x", "y")) || !rec.Same(one[0].Answers[1].Rec, set("x", "y")) {
		t.Error("lists of one answer share memory", one)
	}
	one[0].Answers[1] = api.Answer{Num: 77}
	one[1] = api.Result{Code: api.ErrLow}
	if !rec.Same(other[2].Answers[0].Rec, set("x", "y")) || other[1].Code != api.OK || other[0].Answers[1].Num != 0 {
		t.Error("two answers share memory", other)
	}
	r, _ := x.Shelf().Get("s")
	spoil(r.List)
	ended(t, x, l...)
}

// TestShelvesStay: what was told at one time isn't changed by what is done behind it.
func TestShelvesStay(t *testing.T) {
	next := chances(31415)
	for range 100 {
		w := someWorld(t, next)
		x, _ := New(w.c, w.s, w.h, w.l)
		y := tell(t, w)
		var told, want []shelf.Shelf
		for !x.Done() {
			told, want = append(told, x.Shelf()), append(want, y.shelf())
			worker := next(w.c.Workers)
			x.Step(worker)
			y.step(worker)
		}
		if !slices.EqualFunc(told, want, shelf.Same) || !shelf.Same(x.Begun(), w.s) {
			t.Fatalf("%+v: changed", w)
		}
	}
}

// TestCrewsAreApart: two of one lot, in turns, know nothing of each other.
func TestCrewsAreApart(t *testing.T) {
	l := []api.Deal{of(add("a", 1)), of(out("p", 2)), of(look("a"), look("p"))}
	s := on(t, 9, stock{"a": sum(0), "p": purse(5)})
	h := &heat.Heat{}
	x, _ := New(two(), s, h, lotOf(l...))
	y, _ := New(two(), s, h, lotOf(l...))
	step(t, x, 0, 0, 1, 1, 0)
	has(t, y, stock{"a": sum(0), "p": purse(5)})
	step(t, y, 1, 1)
	has(t, y, stock{"a": sum(0), "p": purse(3)}, 1)
	ended(t, x, l...)
	step(t, y, 0, 0, 0)
	ended(t, y, l...)
}
