package deal

import (
	"math"
	"slices"
	"strings"
	"testing"

	"moiety/act"
	"moiety/api"
	"moiety/pair"
	"moiety/rec"
	"moiety/rule"
)

var (
	oneNaN   = math.Float64frombits(0x7FF8000000000001)
	otherNaN = math.Float64frombits(0xFFF8000000000003)
	negZero  = math.Copysign(0, -1)
)

func long(n int) string { return strings.Repeat("x", n) }

// of: the deal of these acts.
func of(l ...api.Act) api.Deal { return api.Deal{Acts: l} }

func add(key string) api.Act  { return api.Act{Kind: act.Add, Key: key, N: 1} }
func put(key string) api.Act  { return api.Act{Kind: act.Put, Key: key} }
func look(key string) api.Act { return api.Act{Kind: act.Look, Key: key} }
func has(key string) api.Act  { return api.Act{Kind: act.Has, Key: key, S: "b"} }
func drop(key string) api.Act { return api.Act{Kind: act.Drop, Key: key} }

// create: a New of a Set of two names.
func create(key string) api.Act {
	return api.Act{Kind: act.New, Key: key, Make: api.Record{Kind: rec.Set, Cap: 3, List: []api.Item{{Name: "p"}, {Name: "q"}}}}
}

// times: that many acts.
func times(n int, a api.Act) api.Deal { return api.Deal{Acts: slices.Repeat([]api.Act{a}, n)} }

// wrongActs is acts that may not be, and what is wrong.
func wrongActs() []struct {
	a api.Act
	e api.Errno
} {
	return []struct {
		a api.Act
		e api.Errno
	}{
		{api.Act{}, api.ErrKind},
		{api.Act{Kind: -1, Key: "a"}, api.ErrKind},
		{api.Act{Kind: act.Kinds, Key: "a"}, api.ErrKind},
		{api.Act{Kind: math.MinInt, Key: "a"}, api.ErrKind},
		{api.Act{Kind: math.MaxInt, Key: "a"}, api.ErrKind},
		{api.Act{Kind: act.Look}, api.ErrRange},
		{api.Act{Kind: act.Is, Key: long(25)}, api.ErrRange},
		{api.Act{Kind: act.Drop, Key: "a", N: 1}, api.ErrForm},
		{api.Act{Kind: act.Put, Key: "a", S: long(65)}, api.ErrLong},
		{api.Act{Kind: act.Out, Key: "a", N: -1}, api.ErrRange},
		{api.Act{Kind: act.Raise, Key: "a", X: otherNaN}, api.ErrForm},
		{api.Act{Kind: act.New, Key: "a"}, api.ErrKind},
		{api.Act{Kind: act.New, Key: "a", Make: api.Record{Kind: rec.Set, Cap: 1, List: []api.Item{{Name: "a"}, {Name: "b"}}}}, api.ErrFull},
	}
}

// P8.1

func TestCheck(t *testing.T) {
	for n := range 15 {
		want := api.OK
		if n < 1 || n > 12 {
			want = api.ErrRange
		}
		if e, at := Check(times(n, add("a"))); e != want || at != 0 {
			t.Errorf("%d acts: %v, %d", n, e, at)
		}
		// How many there are is told ahead of what is wrong with one.
		if n > 12 {
			if e, at := Check(times(n, api.Act{})); e != api.ErrRange || at != 0 {
				t.Errorf("%d wrong acts: %v, %d", n, e, at)
			}
		}
	}
	if e, at := Check(api.Deal{Acts: []api.Act{}}); e != api.ErrRange || at != 0 {
		t.Error("an empty list", e, at)
	}
	if e, at := Check(of(create("a"), look("a"), drop("a"), look("b"))); e != api.OK || at != 0 {
		t.Error("several", e, at)
	}
}

func TestCheckTellsTheFirstThatMayNotBe(t *testing.T) {
	for _, w := range wrongActs() {
		for n := 1; n <= 12; n++ {
			for i := range n {
				d := times(n, add("a"))
				d.Acts[i] = w.a
				if e, at := Check(d); e != w.e || at != i+1 {
					t.Errorf("%+v at %d of %d: %v, %d", w.a, i+1, n, e, at)
				}
				if i+1 < n {
					d.Acts[n-1] = api.Act{Kind: act.Put, Key: "a", X: 1}
					if e, at := Check(d); e != w.e || at != i+1 {
						t.Errorf("%+v at %d of %d, ahead of another one: %v, %d", w.a, i+1, n, e, at)
					}
				}
			}
		}
	}
}

func TestSame(t *testing.T) {
	scale := func(x float64) api.Act { return api.Act{Kind: act.Scale, Key: "a", X: x} }
	must := add("a")
	must.Must = true
	other := create("a")
	other.Make.List = []api.Item{{Name: "p"}}
	deals := []api.Deal{
		{},
		of(add("a")),
		of(add("b")),
		of(must),
		of(look("a")),
		of(add("a"), add("a")),
		of(add("a"), add("b")),
		of(add("b"), add("a")),
		of(create("a")),
		of(other),
		of(scale(0)),
		of(scale(negZero)),
		of(scale(oneNaN)),
		of(api.Act{}),
		of(wrongActs()[4].a),
		times(12, add("a")),
		times(13, add("a")),
	}
	for i, a := range deals {
		for j, b := range deals {
			if Same(a, Clone(b)) != (i == j) {
				t.Errorf("%d and %d", i, j)
			}
		}
	}
	if !Same(of(scale(otherNaN)), of(scale(oneNaN))) || !Same(api.Deal{}, api.Deal{Acts: []api.Act{}}) {
		t.Error("as layers below tell it")
	}
}

func TestAlike(t *testing.T) {
	num := func(n int64) api.Answer { return api.Answer{Num: n} }
	told := func(r api.Record) api.Answer { return api.Answer{Rec: r} }
	level := func(x float64) api.Answer { return told(api.Record{Kind: rec.Level, Real: x}) }
	results := []api.Result{
		{},
		{Code: api.ErrLow},
		{Code: api.ErrLow, At: 1},
		{Code: api.ErrLow, At: 2},
		{Code: api.ErrOver, At: 2},
		{At: 1},
		{At: -1},
		{Answers: []api.Answer{{}}},
		{Answers: []api.Answer{{}, {}}},
		{Answers: []api.Answer{{}, num(1)}},
		{Answers: []api.Answer{num(1), {}}},
		{Answers: []api.Answer{num(2), {}}},
		{Answers: []api.Answer{{Code: api.ErrNot}, {}}},
		{At: 1, Answers: []api.Answer{{Code: api.ErrNot}, {}}},
		{Code: api.ErrNot, Answers: []api.Answer{{Code: api.ErrNot}, {}}},
		{Answers: []api.Answer{told(create("a").Make)}},
		{Answers: []api.Answer{told(api.Record{Kind: rec.Set, Cap: 3, List: []api.Item{{Name: "p"}}})}},
		{Answers: []api.Answer{level(0)}},
		{Answers: []api.Answer{level(negZero)}},
		{Answers: []api.Answer{level(oneNaN)}},
	}
	for i, a := range results {
		for j, b := range results {
			if Alike(a, Copy(b)) != (i == j) {
				t.Errorf("%d and %d", i, j)
			}
		}
	}
	one, other := api.Result{Answers: []api.Answer{level(oneNaN)}}, api.Result{Answers: []api.Answer{level(otherNaN)}}
	if !Alike(one, other) || !Alike(api.Result{}, api.Result{Answers: []api.Answer{}}) {
		t.Error("as layers below tell it")
	}
}

// spoilItems, spoilActs: changes all of a list, its spare room too.
func spoilItems(l []api.Item) {
	l = l[:cap(l)]
	for i := range l {
		l[i] = api.Item{Score: -99, Name: "spoilt"}
	}
}

func spoilActs(l []api.Act) {
	l = l[:cap(l)]
	for i := range l {
		spoilItems(l[i].Make.List)
		l[i] = api.Act{Kind: -99, Key: "spoilt"}
	}
}

// roomyDeal: a deal whose lists have spare room.
func roomyDeal() api.Deal {
	acts := []api.Act{create("a"), look("b"), create("a"), drop("spare"), add("spare")}
	for i := range acts {
		acts[i].Make.List = append(acts[i].Make.List, api.Item{Name: "spare"})
		acts[i].Make.List = acts[i].Make.List[:len(acts[i].Make.List)-1]
	}
	return of(acts[:3]...)
}

// withRoom: all of a deal's lists with the spare room.
func withRoom(d api.Deal) api.Deal {
	acts := slices.Clone(d.Acts[:cap(d.Acts)])
	for i := range acts {
		l := acts[i].Make.List
		acts[i].Make.List = slices.Clone(l[:cap(l)])
	}
	return api.Deal{Acts: acts}
}

func TestClone(t *testing.T) {
	for _, d := range []api.Deal{{}, {Acts: []api.Act{}}, roomyDeal(), times(13, create("k")), of(wrongActs()[4].a, wrongActs()[10].a)} {
		room := withRoom(d)
		got := Clone(d)
		if !Same(got, d) {
			t.Errorf("%+v: %+v", d, got)
		}
		spoilActs(got.Acts)
		if !Same(withRoom(d), room) {
			t.Errorf("%+v shares memory", d)
		}
	}
}

// TestCloneOutlivesTheDeal: what becomes of a deal, or of one of its clones, isn't seen in the others.
func TestCloneOutlivesTheDeal(t *testing.T) {
	d := roomyDeal()
	one, two := Clone(d), Clone(d)
	spoilActs(d.Acts)
	if !Same(one, roomyDeal()) {
		t.Error("shares memory with what was handed in", one)
	}
	spoilActs(one.Acts)
	if !Same(two, roomyDeal()) {
		t.Error("two answers share memory", two)
	}
	// Nor do the lists of one answer.
	spoilItems(two.Acts[0].Make.List)
	if !rec.Same(two.Acts[2].Make, create("a").Make) {
		t.Error("two lists of one answer share memory")
	}
}

func TestCloneKeepsBits(t *testing.T) {
	got := Clone(of(api.Act{Kind: act.Fix, Key: "a", X: otherNaN, S: "s", N: 4, Must: true}))
	a := got.Acts[0]
	if math.Float64bits(a.X) != math.Float64bits(otherNaN) || a.S != "s" || a.N != 4 || !a.Must {
		t.Errorf("%+v", a)
	}
}

// someResult: a result of two looks at a Set, and one that isn't there.
func someResult() api.Result {
	made := create("a").Make
	_, _, told := rule.Row(made, true, look("a"), look("a"), has("a"), drop("a"), look("a"))
	return api.Result{Code: api.ErrNone, At: 5, Answers: told}
}

func TestCopy(t *testing.T) {
	r := someResult()
	one, two := Copy(r), Copy(r)
	if !Alike(one, r) || one.Code != api.ErrNone || one.At != 5 || len(one.Answers) != 5 {
		t.Errorf("%+v", one)
	}
	spoilResult := func(r api.Result) {
		l := r.Answers[:cap(r.Answers)]
		for i := range l {
			spoilItems(l[i].Rec.List)
			l[i] = api.Answer{Code: 99}
		}
	}
	spoilResult(one)
	if !Alike(r, someResult()) {
		t.Error("shares memory with what was handed in")
	}
	spoilResult(r)
	if !Alike(two, someResult()) {
		t.Error("two answers share memory")
	}
	spoilItems(two.Answers[0].Rec.List)
	if !rec.Same(two.Answers[1].Rec, create("a").Make) {
		t.Error("two lists of one answer share memory")
	}
	for _, r := range []api.Result{{}, {Code: 3, At: -1}, {Answers: []api.Answer{}}, {Answers: []api.Answer{{Code: -1, Num: 4}}}} {
		if !Alike(Copy(r), r) {
			t.Errorf("%+v", r)
		}
	}
}

// TestCopyLeavesSpareRoom: nothing behind a list's end is written.
func TestCopyLeavesSpareRoom(t *testing.T) {
	all := []api.Answer{{Num: 1}, {Num: 2}, {Num: 3}}
	items := []api.Item{{Name: "a"}, {Name: "b"}, {Name: "c"}}
	all[0].Rec.List = items[:1]
	got := Copy(api.Result{Answers: all[:1]})
	got.Answers = append(got.Answers, api.Answer{Num: 9})
	got.Answers[0].Rec.List = append(got.Answers[0].Rec.List, api.Item{Name: "z"})
	if all[1].Num != 2 || all[2].Num != 3 || items[1].Name != "b" || items[2].Name != "c" {
		t.Error(all, items)
	}
}

// P8.2

func TestKeys(t *testing.T) {
	upon := func(keys ...string) api.Deal {
		var d api.Deal
		for i, k := range keys {
			d.Acts = append(d.Acts, api.Act{Kind: i, Key: k})
		}
		return d
	}
	for i, c := range []struct {
		d    api.Deal
		want []string
	}{
		{api.Deal{}, nil},
		{upon("a"), []string{"a"}},
		{upon("a", "a", "a"), []string{"a"}},
		{upon("b", "a"), []string{"a", "b"}},
		{upon("b", "a", "b", "c", "a"), []string{"a", "b", "c"}},
		{upon("ab", "b", "a", "B", "aa"), []string{"B", "a", "aa", "ab", "b"}},
		{upon("\xff", "\x7f", "\x80", "é", "\x00"), []string{"\x00", "\x7f", "\x80", "é", "\xff"}},
		{upon(long(24), long(23), ""), []string{"", long(23), long(24)}},
		{upon("l", "k", "j", "i", "h", "g", "f", "e", "d", "c", "b", "a"), []string{"a", "b", "c", "d", "e", "f", "g", "h", "i", "j", "k", "l"}},
	} {
		if got := Keys(c.d); !slices.Equal(got, c.want) {
			t.Errorf("%d: %q, not %q", i, got, c.want)
		}
	}
}

func TestKeysAreNewMemory(t *testing.T) {
	d := of(add("b"), add("a"), add("b"))
	one, two := Keys(d), Keys(d)
	clear(one[:cap(one)])
	if !slices.Equal(two, []string{"a", "b"}) || !Same(d, of(add("b"), add("a"), add("b"))) {
		t.Error(two, d)
	}
}

func TestRoster(t *testing.T) {
	for k := -1; k <= act.Kinds; k++ {
		want := k == act.New || k == act.Drop
		a := api.Act{Kind: k, Key: "a"}
		if Roster(of(a)) != want || Roster(of(look("a"), a)) != want || Roster(of(a, look("a"))) != want || Roster(of(add("b"), a, look("a"))) != want {
			t.Errorf("%d: not %v", k, want)
		}
	}
	if Roster(api.Deal{}) || Roster(of(api.Act{Kind: math.MaxInt})) || !Roster(of(drop("a"), create("b"))) {
		t.Error("no acts, or both")
	}
}

// P8.3

// both: that two deals conflict so, and meet so, whichever is first.
func both(t *testing.T, name string, a, b api.Deal, conflict, meet bool, but ...string) {
	t.Helper()
	if Conflict(a, b) != conflict || Conflict(b, a) != conflict {
		t.Errorf("%s: Conflict isn't %v", name, conflict)
	}
	if Meet(a, b, but...) != meet || Meet(b, a, but...) != meet {
		t.Errorf("%s: Meet but for %q isn't %v", name, but, meet)
	}
}

func TestConflictAndMeet(t *testing.T) {
	one := of(add("a"))
	both(t, "the document's own", one, one, false, true)
	both(t, "unlike keys", one, of(add("b")), false, false)
	both(t, "no acts", one, api.Deal{}, false, false)
	both(t, "no acts at all", api.Deal{}, api.Deal{}, false, false)
	both(t, "two that read", of(look("a"), has("a")), of(has("a"), look("a")), false, false)
	both(t, "one that reads", of(look("a")), one, true, true)
	both(t, "Is upon what is changed", of(api.Act{Kind: act.Is, Key: "a"}), of(put("a")), false, true)
	both(t, "unlike kinds", of(put("a")), one, false, true)
	both(t, "two that change", of(put("a")), of(put("a")), true, true)
	both(t, "the last of each", of(put("b"), look("c"), put("a")), of(put("d"), look("c"), put("a")), true, true)
	both(t, "none of each", of(put("b"), look("c"), put("a")), of(put("d"), look("c"), put("e")), false, false)
	both(t, "acts of one deal", of(put("a"), put("a")), of(put("b"), put("b")), false, false)
	both(t, "twelve", times(12, add("a")), times(12, add("a")), false, true)
	both(t, "the last of twelve", of(append(times(11, put("b")).Acts, put("a"))...), of(append(times(11, put("c")).Acts, put("a"))...), true, true)
	// New and Drop
	both(t, "both New", of(create("a")), of(create("b")), true, true)
	both(t, "both Drop", of(look("x"), drop("a")), of(look("y"), drop("b")), true, true)
	both(t, "New and Drop", of(create("a")), of(drop("b"), look("x")), true, true)
	both(t, "one New", of(create("a")), of(put("b")), false, false)
	both(t, "one New upon the key", of(create("a")), of(look("a")), true, true)
	both(t, "one Drop upon the key", of(drop("a")), of(put("a")), true, true)
}

func TestMeetBut(t *testing.T) {
	one, two := of(add("a")), of(add("b"), add("a"))
	both(t, "that key", one, one, false, false, "a")
	both(t, "another key", one, one, false, true, "b")
	both(t, "nothing like it", one, one, false, true, "", "aa", "A", "\x00")
	both(t, "among others", one, two, false, false, "b", "a", "c")
	both(t, "one of two", two, two, false, true, "a")
	both(t, "the other one of two", two, two, false, true, "b")
	both(t, "both of two", two, two, false, false, "a", "b")
	both(t, "the same twice", two, two, false, true, "a", "a")
	both(t, "what conflicts", of(put("a")), of(put("a")), true, false, "a")
	// New and Drop meet, whatever the keys are.
	both(t, "New and Drop", of(create("a")), of(drop("a")), true, true, "a")
	both(t, "New and Drop upon others", of(create("a")), of(drop("b")), true, true, "a", "b")
	both(t, "one New", of(create("a")), of(look("a")), true, false, "a")
}

// TestEveryKindUponEveryKind: kinds that there are, and those that there aren't.
func TestEveryKindUponEveryKind(t *testing.T) {
	for k := -1; k <= act.Kinds; k++ {
		for l := -1; l <= act.Kinds; l++ {
			a, b := api.Act{Kind: k, Key: "a"}, api.Act{Kind: l, Key: "a"}
			roster := Roster(of(a)) && Roster(of(b))
			both(t, act.Name(k)+" and "+act.Name(l), of(look("x"), a), of(b, look("y")),
				roster || !pair.Kinds(k, l), roster || !(act.Reads(k) && act.Reads(l)))
			b.Key = "b"
			both(t, act.Name(k)+" and "+act.Name(l)+" upon unlike keys", of(look("x"), a), of(b, look("y")), roster, roster)
		}
	}
}

// TestWhatConflictsMeets: deals that don't meet may be done at once, as it doesn't matter which is first.
func TestWhatConflictsMeets(t *testing.T) {
	var acts []api.Act
	for k := 1; k < act.Kinds; k++ {
		acts = append(acts, api.Act{Kind: k, Key: "a"}, api.Act{Kind: k, Key: "b"})
	}
	for i, a := range acts {
		for j, b := range acts {
			one, other := of(a, acts[(i*7+3)%len(acts)]), of(b, acts[(j*5+1)%len(acts)])
			if Conflict(one, other) && !Meet(one, other) {
				t.Errorf("%+v and %+v", one, other)
			}
		}
	}
}

// P2

func TestArgumentsAreLeft(t *testing.T) {
	d := roomyDeal()
	want := withRoom(d)
	keys := []string{"z", "b", "a", "spare"}
	Check(d)
	Same(d, d)
	Clone(d)
	Keys(d)
	Roster(d)
	Conflict(d, d)
	Meet(d, of(look("b")), keys[:3]...)
	Bytes(d)
	if !Same(withRoom(d), want) || !slices.Equal(keys, []string{"z", "b", "a", "spare"}) {
		t.Error(d, keys)
	}
}
