package fold

import (
	"math"
	"slices"
	"strings"
	"testing"

	"moiety/act"
	"moiety/api"
	"moiety/deal"
	"moiety/rec"
	"moiety/rule"
	"moiety/shelf"
)

var (
	oneNaN   = math.Float64frombits(0x7FF8000000000001)
	otherNaN = math.Float64frombits(0xFFF8000000000003)
	negZero  = math.Copysign(0, -1)
)

func long(n int) string { return strings.Repeat("x", n) }

// named: items without scores.
func named(names ...string) []api.Item {
	var l []api.Item
	for _, n := range names {
		l = append(l, api.Item{Name: n})
	}
	return l
}

func sum(n int64) api.Record { return api.Record{Kind: rec.Sum, Num: n} }

// plain is a record of each kind that may be, by kind; the first is none.
func plain() []api.Record {
	return []api.Record{
		rec.Text:  {Kind: rec.Text, Text: "ab"},
		rec.Sum:   sum(-7),
		rec.Count: {Kind: rec.Count, Num: math.MaxInt64 - 1},
		rec.Purse: {Kind: rec.Purse, Low: 0, High: 10, Num: 5},
		rec.Peak:  {Kind: rec.Peak, Real: 1.5},
		rec.Dip:   {Kind: rec.Dip, Real: -1.5},
		rec.Level: {Kind: rec.Level, Real: negZero},
		rec.Set:   {Kind: rec.Set, Cap: 3, List: named("a", "b")},
		rec.Top:   {Kind: rec.Top, Cap: 2, List: []api.Item{{Score: 2, Name: "b"}, {Score: 1, Name: "a"}}},
	}
}

// fit: acts of each kind upon a key, that may be.
func fit(key string) []api.Act {
	var l []api.Act
	for k := act.New; k < act.Kinds; k++ {
		for _, n := range []int64{0, 2, 9} {
			a := api.Act{Kind: k, Key: key}
			if act.Field(k, 'n') {
				a.N = n
			}
			if act.Field(k, 'x') {
				a.X = float64(n)
			}
			if act.Field(k, 's') {
				a.S = []string{"", "b", "c"}[n%3]
			}
			if act.Field(k, 'm') {
				a.Make = api.Record{Kind: rec.Set, Cap: 2, List: named("q")}
			}
			l = append(l, a)
		}
	}
	return l
}

// wrongActs is acts that may not be, and what is wrong.
func wrongActs() []struct {
	a api.Act
	e api.Errno
} {
	return []struct {
		a api.Act
		e api.Errno
	}{
		{api.Act{}, api.ErrKind},
		{api.Act{Kind: -1, Key: "a"}, api.ErrKind},
		{api.Act{Kind: act.Kinds, Key: "a"}, api.ErrKind},
		{api.Act{Kind: math.MaxInt, Key: "a"}, api.ErrKind},
		{api.Act{Kind: act.Look}, api.ErrRange},
		{api.Act{Kind: act.New, Key: long(25), Make: sum(1)}, api.ErrRange},
		{api.Act{Kind: act.Drop, Key: "a", N: 1}, api.ErrForm},
		{api.Act{Kind: act.Put, Key: "a", S: long(65)}, api.ErrLong},
		{api.Act{Kind: act.Out, Key: "a", N: -1}, api.ErrRange},
		{api.Act{Kind: act.Raise, Key: "a", X: otherNaN}, api.ErrForm},
		{api.Act{Kind: act.New, Key: "a"}, api.ErrKind},
		{api.Act{Kind: act.New, Key: "a", Make: api.Record{Kind: rec.Text, Text: long(65)}}, api.ErrLong},
	}
}

func sameBits(x, y float64) bool { return math.Float64bits(x) == math.Float64bits(y) }

// exact: two records, bit by bit.
func exact(a, b api.Record) bool {
	items := slices.EqualFunc(a.List, b.List, func(x, y api.Item) bool {
		return sameBits(x.Score, y.Score) && x.Name == y.Name
	})
	return items && sameBits(a.Real, b.Real) && a.Kind == b.Kind && a.Num == b.Num &&
		a.Low == b.Low && a.High == b.High && a.Cap == b.Cap && a.Text == b.Text
}

func exactAnswers(a, b api.Answer) bool {
	return a.Code == b.Code && a.Num == b.Num && exact(a.Rec, b.Rec)
}

func exactResults(a, b api.Result) bool {
	return a.Code == b.Code && a.At == b.At && slices.EqualFunc(a.Answers, b.Answers, exactAnswers)
}

// stock is records by keys, as tests keep them.
type stock map[string]api.Record

// on: a shelf with room, and these records.
func on(t *testing.T, room int, l stock) shelf.Shelf {
	t.Helper()
	s, e := shelf.New(room)
	for key, r := range l {
		if e == api.OK {
			s, e = s.Set(key, r)
		}
	}
	if e != api.OK {
		t.Fatalf("%d, %v: %v", room, l, e)
	}
	return s
}

// expect: that a shelf has just these records.
func expect(t *testing.T, s shelf.Shelf, room int, want stock) {
	t.Helper()
	if s.Room() != room || s.Len() != len(want) {
		t.Errorf("room %d, %d records; not %d, %d", s.Room(), s.Len(), room, len(want))
	}
	for key, r := range want {
		if got, ok := s.Get(key); !ok || !exact(got, r) {
			t.Errorf("%q: %+v, %v; not %+v", key, got, ok, r)
		}
	}
}

func of(l ...api.Act) api.Deal { return api.Deal{Acts: l} }

// must: an act that must be.
func must(a api.Act) api.Act {
	a.Must = true
	return a
}

func create(key string, r api.Record) api.Act { return api.Act{Kind: act.New, Key: key, Make: r} }
func drop(key string) api.Act                 { return api.Act{Kind: act.Drop, Key: key} }
func look(key string) api.Act                 { return api.Act{Kind: act.Look, Key: key} }
func is(key string) api.Act                   { return api.Act{Kind: act.Is, Key: key} }
func add(key string, n int64) api.Act         { return api.Act{Kind: act.Add, Key: key, N: n} }
func out(key string, n int64) api.Act         { return api.Act{Kind: act.Out, Key: key, N: n} }
func in(key string, n int64) api.Act          { return api.Act{Kind: act.In, Key: key, N: n} }
func swap(key, s string) api.Act              { return api.Act{Kind: act.Swap, Key: key, S: s} }

// P10.1

func TestActIsApply(t *testing.T) {
	acts := fit("k")
	for _, w := range wrongActs() {
		acts = append(acts, w.a)
	}
	for _, was := range plain() {
		for _, a := range acts {
			beside := stock{"j": sum(1), "l": sum(2)}
			before := stock{"j": sum(1), "l": sum(2)}
			if was.Kind != rec.None {
				before["k"] = was
			}
			behind, stays, want := rule.Apply(was, was.Kind != rec.None, a)
			if stays {
				beside["k"] = behind
			}
			s := on(t, 3, before)
			end, answer := Act(s, a)
			if !exactAnswers(answer, want) {
				t.Errorf("%+v upon %+v: %+v, not %+v", a, was, answer, want)
			}
			expect(t, end, 3, beside)
			expect(t, s, 3, before)
		}
	}
}

func TestActTellsWhatIsWrong(t *testing.T) {
	before := stock{"a": sum(1)}
	for _, w := range wrongActs() {
		end, answer := Act(on(t, 1, before), w.a)
		if !exactAnswers(answer, api.Answer{Code: w.e}) {
			t.Errorf("%+v: %+v", w.a, answer)
		}
		expect(t, end, 1, before)
	}
}

func TestNewNeedsRoom(t *testing.T) {
	full := stock{"a": sum(1), "b": sum(2)}
	for _, make := range plain()[1:] {
		end, answer := Act(on(t, 2, full), create("c", make))
		if !exactAnswers(answer, api.Answer{Code: api.ErrFull}) {
			t.Errorf("%+v: %+v", make, answer)
		}
		expect(t, end, 2, full)
		end, answer = Act(on(t, 3, full), create("c", make))
		if !exactAnswers(answer, api.Answer{}) {
			t.Errorf("%+v: %+v", make, answer)
		}
		expect(t, end, 3, stock{"a": sum(1), "b": sum(2), "c": make})
	}
	// What is refused anyway is told ahead of room.
	if _, answer := Act(on(t, 2, full), create("a", sum(3))); answer.Code != api.ErrThere {
		t.Error("one that is there", answer)
	}
	if _, answer := Act(on(t, 2, full), create("c", api.Record{})); answer.Code != api.ErrKind {
		t.Error("no record", answer)
	}
	if _, answer := Act(shelf.Shelf{}, create("c", sum(3))); answer.Code != api.ErrFull {
		t.Error("the zero shelf", answer)
	}
	if _, answer := Act(shelf.Shelf{}, is("c")); !exactAnswers(answer, api.Answer{}) {
		t.Error("Is upon the zero shelf", answer)
	}
	// What isn't a New is done upon a full one.
	end, answer := Act(on(t, 2, full), add("a", 5))
	if answer.Code != api.OK {
		t.Error("Add", answer)
	}
	expect(t, end, 2, stock{"a": sum(6), "b": sum(2)})
}

// P10.2

// TestExample is the chapter's own.
func TestExample(t *testing.T) {
	make := create("a", api.Record{Kind: rec.Purse, High: 5})
	end, result := One(on(t, 1, nil), of(make, must(out("a", 1))))
	if !exactResults(result, api.Result{Code: api.ErrLow, At: 2}) {
		t.Error(result)
	}
	expect(t, end, 1, nil)
}

func TestOne(t *testing.T) {
	before := stock{"a": sum(1), "p": {Kind: rec.Purse, High: 9, Num: 4}, "t": {Kind: rec.Text, Text: "old"}}
	s := on(t, 5, before)
	end, result := One(s, of(
		must(add("a", 2)),
		must(look("a")),
		out("p", 5), // refused, and needn't be
		in("p", 5),
		must(create("b", sum(9))),
		must(add("b", 1)),
		swap("t", "new"),
		swap("t", "newer"),
		drop("a"),
		look("a"),
		is("a"),
		is("b"),
	))
	want := api.Result{Answers: []api.Answer{
		{}, {Rec: sum(3)}, {Code: api.ErrLow}, {}, {}, {},
		{Rec: api.Record{Kind: rec.Text, Text: "old"}}, {Rec: api.Record{Kind: rec.Text, Text: "new"}},
		{}, {Code: api.ErrNone}, {}, {Num: rec.Sum},
	}}
	if !exactResults(result, want) {
		t.Errorf("%+v", result)
	}
	expect(t, end, 5, stock{"b": sum(10), "p": {Kind: rec.Purse, High: 9, Num: 9}, "t": {Kind: rec.Text, Text: "newer"}})
	expect(t, s, 5, before)
}

func TestOneOfWhatMayNotBe(t *testing.T) {
	before := stock{"a": sum(1)}
	s := on(t, 4, before)
	refuses := func(d api.Deal, want api.Result) {
		t.Helper()
		end, result := One(s, d)
		if !exactResults(result, want) {
			t.Errorf("%d acts: %+v, not %+v", len(d.Acts), result, want)
		}
		expect(t, end, 4, before)
	}
	refuses(api.Deal{}, api.Result{Code: api.ErrRange})
	refuses(api.Deal{Acts: []api.Act{}}, api.Result{Code: api.ErrRange})
	refuses(of(slices.Repeat([]api.Act{add("a", 1)}, 13)...), api.Result{Code: api.ErrRange})
	refuses(of(slices.Repeat([]api.Act{{}}, 13)...), api.Result{Code: api.ErrRange})
	for _, w := range wrongActs() {
		for _, a := range []api.Act{w.a, must(w.a)} {
			refuses(of(a), api.Result{Code: w.e, At: 1})
			refuses(of(add("a", 1), create("b", sum(1)), a, add("a", 1)), api.Result{Code: w.e, At: 3})
			// What may not be is told ahead of an act that is refused.
			refuses(of(must(add("none", 1)), a), api.Result{Code: w.e, At: 2})
			refuses(of(slices.Concat(slices.Repeat([]api.Act{add("a", 1)}, 11), []api.Act{a})...), api.Result{Code: w.e, At: 12})
		}
	}
	end, result := One(s, of(slices.Repeat([]api.Act{add("a", 1)}, 12)...))
	if result.Code != api.OK || len(result.Answers) != 12 {
		t.Error("12 acts", result)
	}
	expect(t, end, 4, stock{"a": sum(13)})
}

// TestRefusedAtEachPlace: a deal whose first, middle or last act must be, and is refused, does nothing.
func TestRefusedAtEachPlace(t *testing.T) {
	before := stock{"a": sum(1), "p": {Kind: rec.Purse, High: 9, Num: 4}, "s": {Kind: rec.Set, Cap: 1, List: named("q")}}
	bad := []struct {
		a api.Act
		e api.Errno
	}{
		{out("p", 5), api.ErrLow},
		{in("p", 6), api.ErrOver},
		{add("none", 1), api.ErrNone},
		{add("p", 1), api.ErrKind},
		{create("p", sum(1)), api.ErrThere},
		{create("new", sum(1)), api.ErrFull},
		{api.Act{Kind: act.Join, Key: "s", S: "z"}, api.ErrFull},
		{api.Act{Kind: act.Has, Key: "s", S: "z"}, api.ErrNot},
		{api.Act{Kind: act.Enough, Key: "p", N: 5}, api.ErrNot},
		{drop("none"), api.ErrNone},
	}
	s := on(t, 3, before)
	for _, b := range bad {
		for n := 1; n <= 12; n++ {
			for i := range n {
				acts := slices.Repeat([]api.Act{must(add("a", 1))}, n)
				acts[i] = must(b.a)
				end, result := One(s, of(acts...))
				if !exactResults(result, api.Result{Code: b.e, At: i + 1}) {
					t.Errorf("%+v, %d of %d: %+v", b.a, i+1, n, result)
				}
				expect(t, end, 3, before)
				acts[i].Must = false
				end, result = One(s, of(acts...))
				answers := make([]api.Answer, n)
				answers[i].Code = b.e
				if !exactResults(result, api.Result{Answers: answers}) {
					t.Errorf("%+v, %d of %d, that needn't be: %+v", b.a, i+1, n, result)
				}
				expect(t, end, 3, stock{"a": sum(int64(n)), "p": before["p"], "s": before["s"]})
			}
		}
	}
}

func TestTheFirstThatIsRefusedCounts(t *testing.T) {
	before := stock{"p": {Kind: rec.Purse, High: 9, Num: 4}}
	end, result := One(on(t, 1, before), of(out("p", 9), must(out("p", 3)), add("p", 1), must(in("p", 9)), must(out("p", 9))))
	if !exactResults(result, api.Result{Code: api.ErrOver, At: 4}) {
		t.Error(result)
	}
	expect(t, end, 1, before)
}

// TestRoomWithinADeal: what a Drop leaves free a New may take, and what a deal that is given up took is free again.
func TestRoomWithinADeal(t *testing.T) {
	before := stock{"a": sum(1)}
	s := on(t, 1, before)
	end, result := One(s, of(must(drop("a")), must(create("b", sum(2)))))
	if result.Code != api.OK {
		t.Error(result)
	}
	expect(t, end, 1, stock{"b": sum(2)})
	end, result = One(s, of(must(create("b", sum(2))), must(drop("a"))))
	if !exactResults(result, api.Result{Code: api.ErrFull, At: 1}) {
		t.Error(result)
	}
	expect(t, end, 1, before)
	end, result = One(s, of(drop("a"), create("b", sum(2)), must(create("c", sum(3)))))
	if !exactResults(result, api.Result{Code: api.ErrFull, At: 3}) {
		t.Error(result)
	}
	expect(t, end, 1, before)
	end, result = One(s, of(must(drop("a")), must(create("a", sum(5))), must(look("a"))))
	if result.Code != api.OK || !exact(result.Answers[2].Rec, sum(5)) {
		t.Error(result)
	}
	expect(t, end, 1, stock{"a": sum(5)})
}

// reference: a deal upon records in a map, told once more in another way.
func reference(room int, l stock, d api.Deal) (stock, api.Result) {
	if e, at := deal.Check(d); e != api.OK {
		return l, api.Result{Code: e, At: at}
	}
	work := stock{}
	for key, r := range l {
		work[key] = r
	}
	var result api.Result
	for i, a := range d.Acts {
		was, there := work[a.Key]
		behind, stays, answer := rule.Apply(was, there, a)
		switch {
		case answer.Code != api.OK:
		case a.Kind == act.New && len(work) == room:
			answer = api.Answer{Code: api.ErrFull}
		case stays:
			work[a.Key] = behind
		default:
			delete(work, a.Key)
		}
		if a.Must && answer.Code != api.OK {
			return l, api.Result{Code: answer.Code, At: i + 1}
		}
		result.Answers = append(result.Answers, answer)
	}
	return work, result
}

// chances: a row of numbers that is the same in each run.
func chances() func(n int) int {
	state := uint64(88172645463325252)
	return func(n int) int {
		state ^= state << 13
		state ^= state >> 7
		state ^= state << 17
		return int(state % uint64(n))
	}
}

// someAct: an act upon one of four keys, mostly one that fits the record there.
func someAct(l stock, chance func(int) int) api.Act {
	a := api.Act{Kind: 1 + chance(act.Kinds-1), Key: []string{"a", "b", "c", "d"}[chance(4)], Must: chance(4) == 0}
	for range 20 {
		if on := act.On(a.Kind); on != rec.None && on != l[a.Key].Kind {
			a.Kind = 1 + chance(act.Kinds-1)
		}
	}
	if act.Field(a.Kind, 'n') {
		a.N = []int64{0, 1, 2, 5, math.MaxInt64}[chance(5)]
		if a.Kind == act.In || a.Kind == act.Out {
			a.N %= 6
		}
	}
	if act.Field(a.Kind, 'x') {
		a.X = []float64{0, 1, negZero, oneNaN, 2.5}[chance(5)]
	}
	if act.Field(a.Kind, 's') {
		a.S = []string{"", "a", "b", "c"}[chance(4)]
	}
	if act.Field(a.Kind, 'm') {
		a.Make = someRecord(chance)
	}
	return a
}

func someRecord(chance func(int) int) api.Record { return plain()[1+chance(rec.Kinds-1)] }

// someDeal: one that may be, most times.
func someDeal(l stock, chance func(int) int) api.Deal {
	var d api.Deal
	for range chance(5) + min(1, chance(30)) {
		d.Acts = append(d.Acts, someAct(l, chance))
	}
	return d
}

// someStock: records at some of the four keys.
func someStock(chance func(int) int) stock {
	l := stock{}
	for _, key := range []string{"a", "b", "c", "d"} {
		if chance(4) > 0 {
			l[key] = someRecord(chance)
		}
	}
	return l
}

func TestRun(t *testing.T) {
	before := stock{"a": sum(1)}
	s := on(t, 2, before)
	end, results := Run(s)
	if len(results) != 0 {
		t.Error("no deals", results)
	}
	expect(t, end, 2, before)
	end, results = Run(s,
		of(add("a", 1), create("b", sum(5))),
		of(add("a", 1), must(create("c", sum(6)))),
		api.Deal{},
		of(create("c", sum(7))),
		of(drop("b")),
		of(create("c", sum(8)), look("a")),
	)
	want := []api.Result{
		{Answers: []api.Answer{{}, {}}},
		{Code: api.ErrFull, At: 2},
		{Code: api.ErrRange},
		{Answers: []api.Answer{{Code: api.ErrFull}}},
		{Answers: []api.Answer{{}}},
		{Answers: []api.Answer{{}, {Rec: sum(2)}}},
	}
	if !slices.EqualFunc(results, want, exactResults) {
		t.Errorf("%+v", results)
	}
	expect(t, end, 2, stock{"a": sum(2), "c": sum(8)})
	expect(t, s, 2, before)
}

func TestRunAsReference(t *testing.T) {
	chance := chances()
	for range 3000 {
		want := someStock(chance)
		room := max(1, len(want)+chance(2))
		s := on(t, room, want)
		var deals []api.Deal
		var wantResults []api.Result
		for range chance(8) {
			d := someDeal(want, chance)
			var result api.Result
			want, result = reference(room, want, d)
			deals = append(deals, d)
			wantResults = append(wantResults, result)
		}
		end, results := Run(s, deals...)
		if !slices.EqualFunc(results, wantResults, exactResults) {
			t.Fatalf("%+v: %+v, not %+v", deals, results, wantResults)
		}
		expect(t, end, room, want)
	}
}

// P10.3

func TestOrder(t *testing.T) {
	s := on(t, 2, stock{"a": {Kind: rec.Text, Text: "0"}})
	deals := []api.Deal{of(swap("a", "p")), of(swap("a", "q")), of(must(look("none"))), of(swap("a", "r"))}
	gave := func(text string) api.Result {
		return api.Result{Answers: []api.Answer{{Rec: api.Record{Kind: rec.Text, Text: text}}}}
	}
	refused := api.Result{Code: api.ErrNone, At: 1}
	for _, c := range []struct {
		order   []int
		text    string
		results []api.Result
	}{
		{nil, "0", []api.Result{{}, {}, {}, {}}},
		{[]int{0}, "p", []api.Result{gave("0"), {}, {}, {}}},
		{[]int{0, 1, 2, 3}, "r", []api.Result{gave("0"), gave("p"), refused, gave("q")}},
		{[]int{3, 2, 1, 0}, "p", []api.Result{gave("q"), gave("r"), refused, gave("0")}},
		{[]int{1, 0, 1}, "q", []api.Result{gave("q"), gave("p"), {}, {}}},
		{[]int{1, 1, 1}, "q", []api.Result{{}, gave("q"), {}, {}}},
		{[]int{4, -1, 3, 7, math.MaxInt, math.MinInt, 0, -4}, "p", []api.Result{gave("r"), {}, {}, gave("0")}},
		{[]int{-1, 4}, "0", []api.Result{{}, {}, {}, {}}},
		{[]int{2, 2}, "0", []api.Result{{}, {}, refused, {}}},
	} {
		end, results := Order(s, deals, c.order...)
		if !slices.EqualFunc(results, c.results, exactResults) {
			t.Errorf("%v: %+v", c.order, results)
		}
		expect(t, end, 2, stock{"a": {Kind: rec.Text, Text: c.text}})
	}
	expect(t, s, 2, stock{"a": {Kind: rec.Text, Text: "0"}})
	end, results := Order(s, nil, 0, 1, -1)
	if len(results) != 0 {
		t.Error("no deals", results)
	}
	expect(t, end, 2, stock{"a": {Kind: rec.Text, Text: "0"}})
}

// TestOrderKeepsTheLastResult: one that went the first time, and is refused then.
func TestOrderKeepsTheLastResult(t *testing.T) {
	deals := []api.Deal{of(must(create("a", sum(1)))), of(must(drop("a"))), {}}
	s := on(t, 1, nil)
	end, results := Order(s, deals, 0, 0, 2)
	if !slices.EqualFunc(results, []api.Result{{Code: api.ErrThere, At: 1}, {}, {Code: api.ErrRange}}, exactResults) {
		t.Error(results)
	}
	expect(t, end, 1, stock{"a": sum(1)})
	end, results = Order(s, deals, 1, 0, 1, 0)
	if done := (api.Result{Answers: []api.Answer{{}}}); !slices.EqualFunc(results, []api.Result{done, done, {}}, exactResults) {
		t.Error(results)
	}
	expect(t, end, 1, stock{"a": sum(1)})
}

// P10.4

// places: that two deals upon a shelf may change places.
func places(t *testing.T, s shelf.Shelf, a, b api.Deal) {
	t.Helper()
	one, ofOne := Order(s, []api.Deal{a, b}, 0, 1)
	other, ofOther := Order(s, []api.Deal{a, b}, 1, 0)
	if !shelf.Same(one, other) || !deal.Alike(ofOne[0], ofOther[0]) || !deal.Alike(ofOne[1], ofOther[1]) {
		t.Fatalf("%+v, %+v: %+v, %+v", a, b, ofOne, ofOther)
	}
}

func TestDealsThatDoNotConflictChangePlaces(t *testing.T) {
	chance := chances()
	tried, differ := 0, 0
	for range 30000 {
		l := someStock(chance)
		s := on(t, max(1, len(l)+chance(2)), l)
		a, b := someDeal(l, chance), someDeal(l, chance)
		if !deal.Conflict(a, b) {
			places(t, s, a, b)
			tried++
			continue
		}
		one, _ := Run(s, a, b)
		other, _ := Run(s, b, a)
		if !shelf.Same(one, other) {
			differ++
		}
	}
	if tried < 3000 || differ < 300 {
		t.Errorf("%d were tried, %d of the others differ", tried, differ)
	}
}

// TestSingleActsChangePlaces: every kind, and every kind beside it, upon every kind of records.
func TestSingleActsChangePlaces(t *testing.T) {
	for _, r := range plain() {
		l := stock{"j": sum(1)}
		if r.Kind != rec.None {
			l["k"] = r
		}
		s := on(t, 2, l)
		for _, a := range fit("k") {
			for _, b := range fit("k") {
				for i := range 4 {
					a.Must, b.Must = i%2 == 1, i/2 == 1
					one, other := of(add("j", 1), a), of(b, add("j", 2))
					if !deal.Conflict(one, other) {
						places(t, s, one, other)
					}
				}
			}
		}
	}
}

// P2

// roomy: a list of items with spare room that is filled.
func roomy(l []api.Item) []api.Item {
	all := append(slices.Clone(l), make([]api.Item, 3)...)
	for i := len(l); i < len(all); i++ {
		all[i] = api.Item{Score: -77, Name: "spare"}
	}
	return all[:len(l)]
}

// roomyDeals: deals whose lists have spare room.
func roomyDeals() []api.Deal {
	make := api.Record{Kind: rec.Set, Cap: 4, List: roomy(named("a", "b"))}
	acts := []api.Act{create("k", make), look("k"), {Kind: act.Join, Key: "k", S: "c"}, look("k"), {Kind: act.Leave, Key: "k", S: "a"}, drop("none")}
	one := api.Deal{Acts: acts[:4]}
	two := api.Deal{Acts: acts[1:3]}
	return []api.Deal{one, two, of(must(look("none")))}[:2]
}

func TestArgumentsAreLeft(t *testing.T) {
	l, want := roomyDeals(), roomyDeals()
	s := on(t, 2, stock{"a": sum(1)})
	order := []int{1, 0, 5, 1, -1}
	Run(s, l...)
	Order(s, l, order[:3]...)
	One(s, l[0])
	Act(s, l[0].Acts[0])
	expect(t, s, 2, stock{"a": sum(1)})
	if !slices.Equal(order, []int{1, 0, 5, 1, -1}) {
		t.Error("the order changed", order)
	}
	for i, d := range l[:cap(l)] {
		whole, wantWhole := d.Acts[:cap(d.Acts)], want[:cap(want)][i].Acts
		if !slices.EqualFunc(whole, wantWhole[:cap(wantWhole)], act.Same) {
			t.Errorf("deal %d changed: %+v", i, whole)
		}
	}
	if list := l[0].Acts[0].Make.List; !slices.Equal(list[:cap(list)], want[0].Acts[0].Make.List[:cap(list)]) {
		t.Error("a Make changed", list)
	}
}

// spoil: changes all of a list, its spare room too.
func spoil(l []api.Item) {
	l = l[:cap(l)]
	for i := range l {
		l[i] = api.Item{Score: -99, Name: "spoilt"}
	}
}

func TestAnswersShareNothing(t *testing.T) {
	l := roomyDeals()
	s := on(t, 2, stock{"a": sum(1)})
	made := func(names ...string) api.Record { return api.Record{Kind: rec.Set, Cap: 4, List: named(names...)} }
	first := api.Result{Answers: []api.Answer{{}, {Rec: made("a", "b")}, {}, {Rec: made("a", "b", "c")}}}
	second := api.Result{Answers: []api.Answer{{Rec: made("a", "b", "c")}, {}}}
	end, results := Run(s, l...)
	again, others := Order(s, l, 0, 1)
	spoil(l[0].Acts[0].Make.List)
	l[0].Acts[0] = api.Act{}
	for i := range results[0].Answers {
		spoil(results[0].Answers[i].Rec.List)
		results[0].Answers[i].Num = 77
	}
	if !exactResults(results[1], second) || !exactResults(others[0], first) || !exactResults(others[1], second) {
		t.Errorf("results share: %+v, %+v", results, others)
	}
	expect(t, end, 2, stock{"a": sum(1), "k": made("a", "b", "c")})
	expect(t, again, 2, stock{"a": sum(1), "k": made("a", "b", "c")})
	at, answer := Act(end, look("k"))
	spoil(answer.Rec.List)
	expect(t, at, 2, stock{"a": sum(1), "k": made("a", "b", "c")})
	expect(t, end, 2, stock{"a": sum(1), "k": made("a", "b", "c")})
}

// TestResultsAreEachTheirOwn: one deal, done twice, has not the same list twice.
func TestResultsAreEachTheirOwn(t *testing.T) {
	d := of(look("a"), look("a"))
	_, results := Run(on(t, 1, stock{"a": {Kind: rec.Set, Cap: 2, List: named("x")}}), d, d)
	spoil(results[0].Answers[0].Rec.List)
	results[0].Answers[1] = api.Answer{}
	for _, answer := range results[1].Answers {
		if !slices.Equal(answer.Rec.List, named("x")) {
			t.Error("shared", results)
		}
	}
}
