package hand

import (
	"math"
	"slices"
	"strings"
	"testing"

	"moiety/act"
	"moiety/api"
	"moiety/deal"
	"moiety/fold"
	"moiety/rec"
	"moiety/shelf"
)

func long(n int) string { return strings.Repeat("x", n) }

// named: items without scores.
func named(names ...string) []api.Item {
	var l []api.Item
	for _, n := range names {
		l = append(l, api.Item{Name: n})
	}
	return l
}

func sum(n int64) api.Record   { return api.Record{Kind: rec.Sum, Num: n} }
func purse(n int64) api.Record { return api.Record{Kind: rec.Purse, Num: n, High: 10} }
func set(names ...string) api.Record {
	return api.Record{Kind: rec.Set, Cap: 4, List: named(names...)}
}

// plain is a record of each kind that may be, by kind; the first is none.
func plain() []api.Record {
	return []api.Record{
		rec.Text:  {Kind: rec.Text, Text: "ab"},
		rec.Sum:   sum(-7),
		rec.Count: {Kind: rec.Count, Num: math.MaxInt64 - 1},
		rec.Purse: purse(5),
		rec.Peak:  {Kind: rec.Peak, Real: 1.5},
		rec.Dip:   {Kind: rec.Dip, Real: -1.5},
		rec.Level: {Kind: rec.Level, Real: 2},
		rec.Set:   set("a", "b"),
		rec.Top:   {Kind: rec.Top, Cap: 2, List: []api.Item{{Score: 2, Name: "b"}, {Score: 1, Name: "a"}}},
	}
}

// stock is records by keys, as tests keep them.
type stock map[string]api.Record

// on: a shelf with room, and these records.
func on(t *testing.T, room int, l stock) shelf.Shelf {
	t.Helper()
	s, e := shelf.New(room)
	for key, r := range l {
		if e == api.OK {
			s, e = s.Set(key, r)
		}
	}
	if e != api.OK {
		t.Fatalf("%d, %v: %v", room, l, e)
	}
	return s
}

// expect: that a shelf has just this room, and these records.
func expect(t *testing.T, name string, s shelf.Shelf, room int, want stock) {
	t.Helper()
	if s.Room() != room || s.Len() != len(want) {
		t.Errorf("%s: room %d, %d records; not %d, %d", name, s.Room(), s.Len(), room, len(want))
	}
	for key, r := range want {
		if got, ok := s.Get(key); !ok || !rec.Same(got, r) {
			t.Errorf("%s: %q is %+v, %v; not %+v", name, key, got, ok, r)
		}
	}
}

func of(l ...api.Act) api.Deal { return api.Deal{Acts: l} }

// must: an act that must be.
func must(a api.Act) api.Act {
	a.Must = true
	return a
}

func create(key string, r api.Record) api.Act { return api.Act{Kind: act.New, Key: key, Make: r} }
func drop(key string) api.Act                 { return api.Act{Kind: act.Drop, Key: key} }
func look(key string) api.Act                 { return api.Act{Kind: act.Look, Key: key} }
func is(key string) api.Act                   { return api.Act{Kind: act.Is, Key: key} }
func add(key string, n int64) api.Act         { return api.Act{Kind: act.Add, Key: key, N: n} }
func in(key string, n int64) api.Act          { return api.Act{Kind: act.In, Key: key, N: n} }
func out(key string, n int64) api.Act         { return api.Act{Kind: act.Out, Key: key, N: n} }
func enough(key string, n int64) api.Act      { return api.Act{Kind: act.Enough, Key: key, N: n} }
func join(key, s string) api.Act              { return api.Act{Kind: act.Join, Key: key, S: s} }

// steps: that just so many steps can be taken, and that it is over behind the last one, not ahead of it.
func steps(t *testing.T, name string, h *Hand, n int) {
	t.Helper()
	for i := range n {
		running(t, name, h, i)
		if !h.Step() {
			t.Fatalf("%s: step %d wasn't taken", name, i+1)
		}
	}
	for range 3 {
		if !h.Over() || h.Step() {
			t.Errorf("%s: not over behind %d steps", name, n)
		}
	}
}

// running: that it isn't over behind so many steps, and tells nothing.
func running(t *testing.T, name string, h *Hand, taken int) {
	t.Helper()
	r, ok := h.Result()
	if h.Over() || ok || !deal.Alike(r, api.Result{}) || r.Answers != nil {
		t.Errorf("%s: over behind %d steps: %v, %+v", name, taken, ok, r)
	}
	s := on(t, 1, stock{"z": sum(1)})
	end, drawn := h.Commit(s)
	if !shelf.Same(end, s) || end.Room() != 1 || len(drawn) != 0 {
		t.Errorf("%s: commits something behind %d steps: %+v", name, taken, drawn)
	}
}

// results: that it has just this result, however often it is asked for.
func results(t *testing.T, name string, h *Hand, want api.Result) {
	t.Helper()
	for range 2 {
		if got, ok := h.Result(); !ok || !deal.Alike(got, want) {
			t.Errorf("%s: %v, %+v, not %+v", name, ok, got, want)
		}
	}
}

// nothing: that nothing is committed.
func nothing(t *testing.T, name string, h *Hand) {
	t.Helper()
	for _, s := range []shelf.Shelf{{}, on(t, 1, nil), on(t, 3, stock{"a": sum(9), "p": purse(9), "z": sum(1)})} {
		end, drawn := h.Commit(s)
		if !shelf.Same(end, s) || end.Room() != s.Room() || len(drawn) != 0 {
			t.Errorf("%s: commits something: %+v", name, drawn)
		}
	}
}

// commits: that upon a shelf with these records there are just those behind it, and that these acts were drawn.
func commits(t *testing.T, name string, h *Hand, room int, upon, want stock, drawn ...api.Act) {
	t.Helper()
	s := on(t, room, upon)
	for range 2 {
		end, l := h.Commit(s)
		expect(t, name, end, room, want)
		if !slices.EqualFunc(l, drawn, act.Same) {
			t.Errorf("%s: %+v, not %+v", name, l, drawn)
		}
	}
	expect(t, name+", the shelf itself", s, room, upon)
}

// P15.1

func TestTheDocumentsExample(t *testing.T) {
	h := New(of(create("a", sum(1)), must(out("p", 3))), on(t, 5, stock{"p": purse(2)}))
	steps(t, "refused", h, 2)
	results(t, "refused", h, api.Result{Code: api.ErrLow, At: 2})
	nothing(t, "refused", h)
}

func TestActByAct(t *testing.T) {
	s := on(t, 9, stock{"a": sum(3), "p": purse(5)})
	h := New(of(add("a", 2), look("a"), must(out("p", 5)), look("p"), create("q", set("x")), join("q", "y"), look("q"), drop("a"), is("a")), s)
	steps(t, "all", h, 9)
	results(t, "all", h, api.Result{Answers: []api.Answer{{}, {Rec: sum(5)}, {}, {Rec: purse(0)}, {}, {}, {Rec: set("x", "y")}, {}, {}}})
	expect(t, "the shelf it was handed", s, 9, stock{"a": sum(3), "p": purse(5)})
}

// TestActsWithoutMust: they are answered errors, and the deal goes on.
func TestActsWithoutMust(t *testing.T) {
	l := []api.Act{out("p", 6), add("p", 1), create("p", sum(1)), look("none"), create("q", sum(1)), create("r", sum(1)), must(out("p", 5))}
	h := New(of(l...), on(t, 2, stock{"p": purse(5)}))
	steps(t, "errors", h, 7)
	var want api.Result
	for _, e := range []api.Errno{api.ErrLow, api.ErrKind, api.ErrThere, api.ErrNone, api.OK, api.ErrFull, api.OK} {
		want.Answers = append(want.Answers, api.Answer{Code: e})
	}
	results(t, "errors", h, want)
	h = New(of(look("none")), shelf.Shelf{})
	steps(t, "only one", h, 1)
	results(t, "only one", h, api.Result{Answers: []api.Answer{{Code: api.ErrNone}}})
}

// TestRefusedAtEachPlace: deals of each length whose Must fails at each place.
func TestRefusedAtEachPlace(t *testing.T) {
	s := on(t, 5, stock{"a": sum(0), "p": purse(2)})
	for n := 1; n <= deal.MaxActs; n++ {
		for at := 1; at <= n; at++ {
			d := of(slices.Repeat([]api.Act{must(add("a", 1))}, n)...)
			d.Acts[at-1] = must(enough("p", 3))
			h := New(d, s)
			steps(t, "refused", h, at)
			results(t, "refused", h, api.Result{Code: api.ErrNot, At: at})
			nothing(t, "refused", h)
		}
	}
	expect(t, "the shelf it was handed", s, 5, stock{"a": sum(0), "p": purse(2)})
}

// TestTheFirstThatIsRefusedCounts: of those that must be.
func TestTheFirstThatIsRefusedCounts(t *testing.T) {
	h := New(of(out("p", 3), must(in("p", 9)), must(out("p", 3))), on(t, 5, stock{"p": purse(2)}))
	steps(t, "two", h, 2)
	results(t, "two", h, api.Result{Code: api.ErrOver, At: 2})
}

func TestWhatMayNotBe(t *testing.T) {
	nan := math.Float64frombits(0xFFF8000000000003)
	for _, c := range []struct {
		name string
		d    api.Deal
		e    api.Errno
		at   int
	}{
		{"no acts", api.Deal{}, api.ErrRange, 0},
		{"an empty list of acts", of([]api.Act{}...), api.ErrRange, 0},
		{"too many acts", of(slices.Repeat([]api.Act{add("a", 1)}, 13)...), api.ErrRange, 0},
		{"too many, and wrong", of(slices.Repeat([]api.Act{{}}, 13)...), api.ErrRange, 0},
		{"the zero act", of(api.Act{}), api.ErrKind, 1},
		{"a kind beyond all", of(look("a"), api.Act{Kind: act.Kinds, Key: "a"}), api.ErrKind, 2},
		{"an empty key", of(look("a"), add("a", 1), add("", 1), api.Act{}), api.ErrRange, 3},
		{"a long key", of(add(long(25), 1)), api.ErrRange, 1},
		{"a field too many", of(look("a"), api.Act{Kind: act.Drop, Key: "a", N: 1}), api.ErrForm, 2},
		{"a long text", of(api.Act{Kind: act.Put, Key: "a", S: long(65)}), api.ErrLong, 1},
		{"an amount below 0", of(in("p", 1), out("p", -1)), api.ErrRange, 2},
		{"no number", of(api.Act{Kind: act.Raise, Key: "a", X: nan}), api.ErrForm, 1},
		{"a Make that may not be", of(create("b", api.Record{Kind: rec.Text, Text: long(65)})), api.ErrLong, 1},
		{"the last of twelve", of(append(slices.Repeat([]api.Act{add("a", 1)}, 11), api.Act{})...), api.ErrKind, 12},
	} {
		for _, split := range [][]string{nil, {"a", "", "b", "p"}} {
			h := New(c.d, on(t, 5, stock{"a": sum(0), "p": purse(2)}), split...)
			steps(t, c.name, h, 0)
			results(t, c.name, h, api.Result{Code: c.e, At: c.at})
			nothing(t, c.name, h)
		}
	}
}

// TestSplitKeys: acts upon them are answered the zero answer, whatever they are, and nothing is done.
func TestSplitKeys(t *testing.T) {
	l := []api.Act{add("a", 2), look("a"), must(add("b", 1)), must(out("a", 1)), must(drop("none")), create("a", sum(1)), is("b"), look("c"), add("c", 1), look("c")}
	h := New(of(l...), on(t, 5, stock{"a": sum(3), "b": purse(1), "c": sum(7)}), "a", "b", "none")
	steps(t, "split", h, 10)
	want := api.Result{Answers: make([]api.Answer, 10)}
	want.Answers[7].Rec, want.Answers[9].Rec = sum(7), sum(8)
	results(t, "split", h, want)
	drawn := l[:7]
	commits(t, "split", h, 5, stock{"a": sum(3), "b": purse(1), "c": sum(7)}, stock{"a": sum(3), "b": purse(1), "c": sum(8)}, drawn...)
}

// TestAllUponSplitKeys: of each number of acts.
func TestAllUponSplitKeys(t *testing.T) {
	for n := 1; n <= deal.MaxActs; n++ {
		var l []api.Act
		for i := range n {
			l = append(l, add([]string{"a", "b"}[i%2], int64(i)))
		}
		h := New(of(l...), on(t, 2, stock{"a": sum(1), "b": sum(2)}), "b", "c", "a", "b")
		steps(t, "all split", h, n)
		results(t, "all split", h, api.Result{Answers: make([]api.Answer, n)})
		commits(t, "all split", h, 2, stock{"a": sum(1), "b": sum(2)}, stock{"a": sum(1), "b": sum(2)}, l...)
	}
}

// TestRefusedBesideSplitKeys: what was drawn isn't told of one that is refused.
func TestRefusedBesideSplitKeys(t *testing.T) {
	h := New(of(add("a", 1), must(out("p", 3)), add("a", 1)), on(t, 5, stock{"a": sum(0), "p": purse(2)}), "a")
	steps(t, "refused", h, 2)
	results(t, "refused", h, api.Result{Code: api.ErrLow, At: 2})
	nothing(t, "refused", h)
}

// TestOtherSplitKeys: keys that are like one, and aren't, split nothing.
func TestOtherSplitKeys(t *testing.T) {
	for _, split := range [][]string{nil, {}, {""}, {"A", "aa", "a ", "", "b"}} {
		h := New(of(add("a", 1), look("a")), on(t, 5, stock{"a": sum(0)}), split...)
		steps(t, "others", h, 2)
		results(t, "others", h, api.Result{Answers: []api.Answer{{}, {Rec: sum(1)}}})
		commits(t, "others", h, 5, stock{"a": sum(0)}, stock{"a": sum(1)})
	}
}

// P15.2

// done: a deal that was done to its end.
func done(d api.Deal, s shelf.Shelf, split ...string) *Hand {
	h := New(d, s, split...)
	for h.Step() {
	}
	return h
}

func TestCommitUponWhereItBegan(t *testing.T) {
	l := stock{"a": sum(3), "b": sum(4), "c": sum(5)}
	h := done(of(add("a", 1), look("b"), drop("c"), create("d", set("x")), add("a", 1)), on(t, 4, l))
	commits(t, "where it began", h, 4, l, stock{"a": sum(5), "b": sum(4), "d": set("x")})
}

// TestCommitUponAnother: keys of acts that do more than read have what they have upon its own, all others stay.
func TestCommitUponAnother(t *testing.T) {
	began := on(t, 9, stock{"a": sum(3), "b": sum(4), "c": sum(5), "g": sum(6)})
	acts := []api.Act{add("a", 1), look("b"), is("b"), drop("c"), create("d", set("x")), look("e"), look("a"), is("g")}
	h := done(of(acts...), began)
	commits(t, "none there", h, 9, nil, stock{"a": sum(4), "d": set("x")})
	upon := stock{"a": purse(1), "b": sum(70), "c": sum(80), "d": sum(90), "e": sum(100), "f": set("f")}
	commits(t, "others there", h, 9, upon, stock{"a": sum(4), "b": sum(70), "d": set("x"), "e": sum(100), "f": set("f")})
}

// TestCommitOfActsThatWereRefused: a key upon which one was tried has what it has upon its own, none too.
func TestCommitOfActsThatWereRefused(t *testing.T) {
	h := done(of(out("p", 9), add("none", 1), drop("gone"), create("a", sum(7)), add("p", 1)), on(t, 9, stock{"p": purse(5), "a": sum(1)}))
	commits(t, "none there", h, 9, nil, stock{"p": purse(5), "a": sum(1)})
	upon := stock{"p": purse(1), "none": sum(1), "gone": sum(2), "a": set("q"), "z": sum(3)}
	commits(t, "others there", h, 9, upon, stock{"p": purse(5), "a": sum(1), "z": sum(3)})
}

func TestCommitOfReaders(t *testing.T) {
	acts := []api.Act{look("a"), is("a"), is("none"), look("none"), enough("p", 1), must(enough("p", 5)),
		{Kind: act.Reach, Key: "n", N: 1}, {Kind: act.Has, Key: "s", S: "x"}}
	h := done(of(acts...), on(t, 9, stock{"a": sum(1), "p": purse(5), "n": {Kind: rec.Count}, "s": set()}))
	commits(t, "none there", h, 9, nil, nil)
	upon := stock{"a": sum(2), "p": purse(1), "none": sum(3), "n": sum(4), "s": sum(5)}
	commits(t, "others there", h, 9, upon, upon)
}

// TestCommitByEachKind: which kinds lay their key's record, and which only read.
func TestCommitByEachKind(t *testing.T) {
	upon := stock{"k": {Kind: rec.Text, Text: "upon"}}
	for k := act.New; k < act.Kinds; k++ {
		a := api.Act{Kind: k, Key: "k"}
		if k == act.New {
			a.Make = sum(1)
		}
		for _, r := range plain()[1:] {
			want := stock{"k": r}
			switch {
			case act.Reads(k):
				want = upon
			case k == act.Drop:
				want = nil
			case act.On(k) == r.Kind:
				want["k"], _ = firstOf(t, a, r)
			}
			commits(t, act.Name(k), done(of(a), on(t, 1, stock{"k": r})), 1, upon, want)
			commits(t, act.Name(k)+", split", done(of(a), on(t, 1, stock{"k": r}), "k"), 1, upon, upon, a)
		}
	}
}

// firstOf: what an act leaves of a record.
func firstOf(t *testing.T, a api.Act, r api.Record) (api.Record, bool) {
	t.Helper()
	s, _ := fold.Act(on(t, 1, stock{a.Key: r}), a)
	return s.Get(a.Key)
}

// TestCommitOfKeysThatComeAndGo: what is there in the end counts.
func TestCommitOfKeysThatComeAndGo(t *testing.T) {
	for _, c := range []struct {
		name string
		l    []api.Act
		want stock
	}{
		{"gone, and there again", []api.Act{drop("a"), create("a", set("x"))}, stock{"a": set("x"), "b": sum(9), "z": sum(1)}},
		{"there, and gone again", []api.Act{create("b", sum(1)), drop("b")}, stock{"a": sum(8), "z": sum(1)}},
		{"gone, there, gone", []api.Act{drop("a"), create("a", sum(1)), drop("a")}, stock{"b": sum(9), "z": sum(1)}},
		{"gone, and looked for", []api.Act{drop("a"), look("a"), is("a")}, stock{"b": sum(9), "z": sum(1)}},
	} {
		h := done(of(c.l...), on(t, 3, stock{"a": sum(3)}))
		commits(t, c.name, h, 3, stock{"a": sum(8), "b": sum(9), "z": sum(1)}, c.want)
	}
}

// TestWhatGoesMakesRoom: in whatever order keys come and go.
func TestWhatGoesMakesRoom(t *testing.T) {
	l := stock{"b": sum(0), "d": sum(0)}
	for _, acts := range [][]api.Act{
		{drop("b"), create("a", sum(1)), drop("d"), create("b", sum(1))},
		{drop("d"), create("e", sum(1)), drop("b"), create("c", sum(1)), drop("c"), create("a", sum(1))},
		{drop("d"), drop("b"), create("z", sum(1)), create("y", sum(1))},
		{drop("b"), create("c", sum(1)), drop("d"), create("d", sum(2))},
	} {
		d := of(acts...)
		s := on(t, 2, l)
		want, _ := fold.One(s, d)
		if got, _ := done(d, s).Commit(s); !shelf.Same(got, want) || got.Len() != 2 {
			t.Errorf("%+v: %v, not %v", acts, got.Keys("", "~", 9), want.Keys("", "~", 9))
		}
	}
}

// TestSplitActsInTheirOrder: all of them, with all that they have.
func TestSplitActsInTheirOrder(t *testing.T) {
	l := []api.Act{add("b", 1), must(join("s", "x")), look("b"), add("a", 2), add("b", 1), {Kind: act.Raise, Key: "a", X: 1.5, Must: true}, create("s", set("p", "q"))}
	h := done(of(append([]api.Act{add("o", 1)}, l...)...), on(t, 5, stock{"o": sum(1)}), "s", "a", "b")
	commits(t, "split", h, 5, nil, stock{"o": sum(2)}, l...)
}

// Chances

// chances: a row of numbers that is the same in each run.
func chances(seed uint64) func(int) int {
	return func(n int) int {
		seed ^= seed << 13
		seed ^= seed >> 7
		seed ^= seed << 17
		return int(seed % uint64(n))
	}
}

func someRecord(next func(int) int) api.Record { return plain()[1+next(rec.Kinds-1)] }

// someStock: records at some of six keys.
func someStock(next func(int) int) stock {
	l := stock{}
	for _, key := range []string{"a", "b", "c", "d", "e", "f"} {
		if next(4) > 0 {
			l[key] = someRecord(next)
		}
	}
	return l
}

// someAct: an act upon one of six keys, mostly one that fits the record there.
func someAct(l stock, next func(int) int) api.Act {
	a := api.Act{Kind: 1 + next(act.Kinds-1), Key: []string{"a", "b", "c", "d", "e", "f"}[next(6)], Must: next(4) == 0}
	for range 20 {
		if on := act.On(a.Kind); on != rec.None && on != l[a.Key].Kind {
			a.Kind = 1 + next(act.Kinds-1)
		}
	}
	if act.Field(a.Kind, 'n') {
		a.N = int64(next(6))
	}
	if act.Field(a.Kind, 'x') {
		a.X = float64(next(5) - 2)
	}
	if act.Field(a.Kind, 's') {
		a.S = []string{"", "a", "b", "c"}[next(4)]
	}
	if act.Field(a.Kind, 'm') {
		a.Make = someRecord(next)
	}
	return a
}

// someDeal: one that may be, most times.
func someDeal(l stock, next func(int) int) api.Deal {
	var d api.Deal
	for range next(5) + min(1, next(30)) {
		d.Acts = append(d.Acts, someAct(l, next))
	}
	return d
}

// P15.3

func TestAlone(t *testing.T) {
	next := chances(88172645463325252)
	refused, changed := 0, 0
	for range 20000 {
		l := someStock(next)
		s := on(t, max(1, len(l)+next(2)), l)
		d := someDeal(l, next)
		h := done(d, s)
		got, drawn := h.Commit(s)
		result, ok := h.Result()
		want, wantResult := fold.One(s, d)
		if !ok || !h.Over() || !shelf.Same(got, want) || got.Room() != want.Room() || !deal.Alike(result, wantResult) || len(drawn) != 0 {
			t.Fatalf("%+v, %+v: %+v, %+v, not %+v", l, d, result, drawn, wantResult)
		}
		if result.Code != api.OK {
			refused++
		}
		if !shelf.Same(s, want) {
			changed++
		}
	}
	if refused < 2000 || changed < 2000 {
		t.Errorf("%d were refused, %d changed something", refused, changed)
	}
}

// P15.4

// interleaved: two deals, stepped in some order, until both are over.
func interleaved(a, b *Hand, next func(int) int) {
	for !a.Over() || !b.Over() {
		if next(2) == 0 {
			a.Step()
		} else {
			b.Step()
		}
	}
}

// apart: that two deals, done at once, are both of them, one behind the other.
func apart(t *testing.T, s shelf.Shelf, a, b api.Deal, next func(int) int) {
	t.Helper()
	one, other := New(a, s), New(b, s)
	interleaved(one, other, next)
	ofOne, _ := one.Result()
	ofOther, _ := other.Result()
	for _, order := range [][]int{{0, 1}, {1, 0}} {
		want, results := fold.Order(s, []api.Deal{a, b}, order...)
		first, second := []*Hand{one, other}[order[0]], []*Hand{one, other}[order[1]]
		got, _ := first.Commit(s)
		got, _ = second.Commit(got)
		if !shelf.Same(got, want) || !deal.Alike(ofOne, results[0]) || !deal.Alike(ofOther, results[1]) {
			t.Fatalf("%+v, %+v: %+v, %+v, not %+v", a, b, ofOne, ofOther, results)
		}
	}
}

func TestApart(t *testing.T) {
	next := chances(362436069)
	tried, differ := 0, 0
	for range 40000 {
		l := someStock(next)
		s := on(t, max(1, len(l)+next(2)), l)
		a, b := someDeal(l, next), someDeal(l, next)
		if deal.Meet(a, b) {
			continue
		}
		apart(t, s, a, b, next)
		tried++
		if end, _ := fold.Run(s, a, b); !shelf.Same(end, s) {
			differ++
		}
	}
	if tried < 4000 || differ < 1000 {
		t.Errorf("%d were tried, %d changed something", tried, differ)
	}
}

// TestApartUponFullShelves: where one deal's keys come and go while the other one is done.
func TestApartUponFullShelves(t *testing.T) {
	s := on(t, 3, stock{"a": sum(1), "b": sum(2), "p": purse(5)})
	next := chances(5)
	one := of(drop("a"), must(create("c", sum(3))), drop("b"), create("a", set("x")))
	for _, other := range []api.Deal{of(out("p", 3), look("p")), of(out("p", 9), must(in("p", 9))), of(must(in("p", 1))), of(look("d"), is("d"))} {
		for range 20 {
			apart(t, s, one, other, next)
		}
	}
}

// P1

func TestRawArguments(t *testing.T) {
	nan := math.Float64frombits(0xFFF8000000000003)
	raw := []api.Act{{}, {Kind: math.MinInt}, {Kind: math.MaxInt, Key: "a", X: nan}, in("p", -3), out("p", math.MinInt64), add("", 1),
		add(long(99), 1), create("x", api.Record{Kind: 99, Real: nan}), join("s", long(99)), add("a", math.MaxInt64), create("q", sum(1)), drop("a")}
	next := chances(77)
	shelves := []shelf.Shelf{{}, on(t, 1, nil), on(t, 3, stock{"a": sum(math.MaxInt64), "p": purse(1), "s": set("x")})}
	for range 2000 {
		var d api.Deal
		for range next(15) {
			d.Acts = append(d.Acts, raw[next(len(raw))])
		}
		h := New(d, shelves[next(3)], []string{"", "a", long(99), "\xff"}[:next(5)]...)
		for i := 0; h.Step() && i < 99; i++ {
			h.Result()
			h.Commit(shelves[next(3)])
		}
		if _, ok := h.Result(); !ok || !h.Over() {
			t.Fatalf("%+v isn't over", d)
		}
		h.Commit(shelves[next(3)])
	}
}

// TestCommitWithoutRoom: nothing is promised, but that it ends.
func TestCommitWithoutRoom(t *testing.T) {
	h := done(of(create("a", sum(1)), create("b", sum(1)), drop("c")), on(t, 9, stock{"c": sum(1)}))
	for _, s := range []shelf.Shelf{{}, on(t, 1, nil), on(t, 1, stock{"z": sum(1)}), on(t, 1, stock{"c": sum(1)})} {
		h.Commit(s)
	}
}

// P2

// roomy: a deal with spare room behind its acts and its lists, the keys that are split, and all of it, spare room too.
func roomy() (api.Deal, []string, func() (api.Deal, []string)) {
	list := append(named("a", "b"), named("spare", "spare")...)
	acts := []api.Act{create("k", api.Record{Kind: rec.Set, Cap: 4, List: list[:2]}), create("x", api.Record{Kind: rec.Set, Cap: 4, List: list[:2]}), add("a", 1), look("k"), look("spare")}
	keys := []string{"x", "spare"}
	whole := func() (api.Deal, []string) {
		d := deal.Clone(api.Deal{Acts: acts})
		d.Acts = append(d.Acts, create("all", api.Record{List: slices.Clone(list)}))
		return d, slices.Clone(keys)
	}
	return api.Deal{Acts: acts[:4]}, keys[:1], whole
}

// spoil: changes all of a list, its spare room too.
func spoil(l []api.Item) {
	l = l[:cap(l)]
	for i := range l {
		l[i] = api.Item{Score: -99, Name: "spoilt"}
	}
}

func TestArgumentsAreLeftAndNotKept(t *testing.T) {
	d, split, whole := roomy()
	was, wasKeys := whole()
	s := on(t, 5, stock{"a": sum(1)})
	done(d, s, split...).Commit(s)
	h := New(d, s, split...)
	is, isKeys := whole()
	if !deal.Same(is, was) || !slices.Equal(isKeys, wasKeys) {
		t.Error("changed")
	}
	expect(t, "the shelf", s, 5, stock{"a": sum(1)})
	kept := deal.Clone(d)
	spoil(d.Acts[0].Make.List)
	d.Acts[1], d.Acts[2], d.Acts[3] = add("a", 100), api.Act{}, drop("a")
	split[0] = "a"
	steps(t, "kept", h, 4)
	results(t, "kept", h, api.Result{Answers: []api.Answer{{}, {}, {}, {Rec: set("a", "b")}}})
	commits(t, "kept", h, 5, stock{"a": sum(1)}, stock{"a": sum(2), "k": set("a", "b")}, kept.Acts[1])
}

func TestAnswersAreNewMemory(t *testing.T) {
	d, split, _ := roomy()
	s := on(t, 5, stock{"a": sum(1)})
	kept := deal.Clone(d)
	h := done(d, s, split...)
	want := api.Result{Answers: []api.Answer{{}, {}, {}, {Rec: set("a", "b")}}}
	one, _ := h.Result()
	two, _ := h.Result()
	end, drawn := h.Commit(s)
	spoil(one.Answers[3].Rec.List)
	one.Answers[0].Num = 77
	if !deal.Alike(two, want) {
		t.Error("two answers share memory")
	}
	spoil(drawn[0].Make.List)
	drawn[0].Key = "a"
	if !deal.Same(d, kept) {
		t.Error("an answer and the deal share memory")
	}
	results(t, "spoilt", h, want)
	commits(t, "spoilt", h, 5, stock{"a": sum(1)}, stock{"a": sum(2), "k": set("a", "b")}, kept.Acts[1])
	expect(t, "the shelf behind it", end, 5, stock{"a": sum(2), "k": set("a", "b")})
}

// TestSpareRoomIsNotShared: what is appended to an answer isn't in another one.
func TestSpareRoomIsNotShared(t *testing.T) {
	h := done(of(add("a", 1), add("a", 2), add("a", 3)), on(t, 1, nil), "a")
	_, one := h.Commit(shelf.Shelf{})
	_, two := h.Commit(shelf.Shelf{})
	one, two = append(one, add("b", 1)), append(two, add("c", 2))
	first, _ := h.Result()
	second, _ := h.Result()
	first.Answers, second.Answers = append(first.Answers, api.Answer{Num: 1}), append(second.Answers, api.Answer{Num: 2})
	if one[3].Key != "b" || two[3].Key != "c" || first.Answers[3].Num != 1 || second.Answers[3].Num != 2 {
		t.Error("shared")
	}
}

// TestHandsAreApart: what is done by one isn't done by another one of the same deal.
func TestHandsAreApart(t *testing.T) {
	d, s := of(add("a", 1), look("a")), on(t, 5, stock{"a": sum(1)})
	one, two := New(d, s), New(d, s)
	steps(t, "one", one, 2)
	running(t, "two", two, 0)
	results(t, "one", one, api.Result{Answers: []api.Answer{{}, {Rec: sum(2)}}})
	steps(t, "two", two, 2)
	results(t, "two", two, api.Result{Answers: []api.Answer{{}, {Rec: sum(2)}}})
	expect(t, "the shelf", s, 5, stock{"a": sum(1)})
}
