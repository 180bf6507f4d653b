package rule

import (
	"math"
	"slices"
	"strings"
	"testing"

	"moiety/act"
	"moiety/api"
	"moiety/rec"
)

const (
	m61     = int64(1) << 61
	most    = math.MaxInt64
	least   = math.MinInt64
	tiniest = math.SmallestNonzeroFloat64
	hugest  = math.MaxFloat64
)

// oneNaN is what is no number, in its one form; otherNaN isn't in it.
var (
	oneNaN   = math.Float64frombits(0x7FF8000000000001)
	otherNaN = math.Float64frombits(0xFFF8000000000003)
	negZero  = math.Copysign(0, -1)
	inf      = math.Inf(1)
)

func long(n int) string { return strings.Repeat("x", n) }

// named: items without scores.
func named(names ...string) []api.Item {
	var l []api.Item
	for _, n := range names {
		l = append(l, api.Item{Name: n})
	}
	return l
}

// letters: that many names that rise.
func letters(n int) []api.Item {
	var l []api.Item
	for i := range n {
		l = append(l, api.Item{Name: string([]byte{byte(100 + i)})})
	}
	return l
}

// plain is a record of each kind that may be, by kind.
func plain() []api.Record {
	return []api.Record{
		rec.Text:  {Kind: rec.Text, Text: "ab"},
		rec.Sum:   {Kind: rec.Sum, Num: -7},
		rec.Count: {Kind: rec.Count, Num: 3},
		rec.Purse: {Kind: rec.Purse, Low: -2, High: 10, Num: 5},
		rec.Peak:  {Kind: rec.Peak, Real: 1.5},
		rec.Dip:   {Kind: rec.Dip, Real: -1.5},
		rec.Level: {Kind: rec.Level, Real: 2.5},
		rec.Set:   {Kind: rec.Set, Cap: 3, List: named("a", "b")},
		rec.Top:   {Kind: rec.Top, Cap: 3, List: []api.Item{{Score: 2, Name: "b"}, {Score: 1, Name: "a"}}},
	}
}

// wrong is records that may not be, and what is wrong.
func wrong() []struct {
	r api.Record
	e api.Errno
} {
	return []struct {
		r api.Record
		e api.Errno
	}{
		{api.Record{}, api.ErrKind},
		{api.Record{Kind: -1, Num: 4}, api.ErrKind},
		{api.Record{Kind: rec.Kinds, Text: "a"}, api.ErrKind},
		{api.Record{Kind: math.MinInt}, api.ErrKind},
		{api.Record{Kind: rec.Text, Num: 1}, api.ErrForm},
		{api.Record{Kind: rec.Text, Text: long(65)}, api.ErrLong},
		{api.Record{Kind: rec.Sum, Real: negZero}, api.ErrForm},
		{api.Record{Kind: rec.Purse, High: 3, Num: 4}, api.ErrRange},
		{api.Record{Kind: rec.Purse, High: m61 + 1}, api.ErrRange},
		{api.Record{Kind: rec.Level, Real: otherNaN}, api.ErrForm},
		{api.Record{Kind: rec.Set, List: named("b", "a")}, api.ErrRange},
		{api.Record{Kind: rec.Set, Cap: 33}, api.ErrRange},
		{api.Record{Kind: rec.Set, Cap: 1, List: named("a", "b")}, api.ErrFull},
		{api.Record{Kind: rec.Set, Cap: 3, List: named("b", "a")}, api.ErrForm},
		{api.Record{Kind: rec.Top, Cap: 3, List: []api.Item{{Score: otherNaN}}}, api.ErrForm},
	}
}

// fit: an act of each kind that may be, by kind.
func fit() []api.Act {
	var l []api.Act
	for k := range act.Kinds {
		a := api.Act{Kind: k, Key: "key"}
		if act.Field(k, 'n') {
			a.N = 2
		}
		if act.Field(k, 'x') {
			a.X = 2.5
		}
		if act.Field(k, 's') {
			a.S = "b"
		}
		if act.Field(k, 'm') {
			a.Make = api.Record{Kind: rec.Set, Cap: 2, List: named("q")}
		}
		l = append(l, a)
	}
	return l
}

// wrongActs is acts that may not be, and what is wrong.
func wrongActs() []struct {
	a api.Act
	e api.Errno
} {
	return []struct {
		a api.Act
		e api.Errno
	}{
		{api.Act{}, api.ErrKind},
		{api.Act{Kind: -1, Key: "a"}, api.ErrKind},
		{api.Act{Kind: act.Kinds, Key: "a"}, api.ErrKind},
		{api.Act{Kind: math.MaxInt, Key: "a"}, api.ErrKind},
		{api.Act{Kind: math.MinInt, Key: "a"}, api.ErrKind},
		{api.Act{Kind: act.Look}, api.ErrRange},
		{api.Act{Kind: act.Is, Key: long(25)}, api.ErrRange},
		{api.Act{Kind: act.Drop, Key: "a", N: 1}, api.ErrForm},
		{api.Act{Kind: act.Put, Key: "a", S: long(65)}, api.ErrLong},
		{api.Act{Kind: act.Join, Key: "a", S: long(17)}, api.ErrLong},
		{api.Act{Kind: act.In, Key: "a", N: -1}, api.ErrRange},
		{api.Act{Kind: act.In, Key: "a", N: m61 + 1}, api.ErrRange},
		{api.Act{Kind: act.Out, Key: "a", N: -1}, api.ErrRange},
		{api.Act{Kind: act.Out, Key: "a", N: m61 + 1}, api.ErrRange},
		{api.Act{Kind: act.Out, Key: "a", N: least}, api.ErrRange},
		{api.Act{Kind: act.Raise, Key: "a", X: otherNaN}, api.ErrForm},
		{api.Act{Kind: act.Offer, Key: "a", X: otherNaN}, api.ErrForm},
		{api.Act{Kind: act.New, Key: "a"}, api.ErrKind},
		{api.Act{Kind: act.New, Key: "a", Make: api.Record{Kind: rec.Set}}, api.ErrRange},
	}
}

func sameBits(x, y float64) bool { return math.Float64bits(x) == math.Float64bits(y) }

// exact: two records, bit by bit, while rec.Same tells two that are no numbers not apart.
func exact(a, b api.Record) bool {
	items := slices.EqualFunc(a.List, b.List, func(x, y api.Item) bool {
		return sameBits(x.Score, y.Score) && x.Name == y.Name
	})
	return items && sameBits(a.Real, b.Real) && a.Kind == b.Kind && a.Num == b.Num &&
		a.Low == b.Low && a.High == b.High && a.Cap == b.Cap && a.Text == b.Text
}

func exactAnswers(a, b api.Answer) bool {
	return a.Code == b.Code && a.Num == b.Num && exact(a.Rec, b.Rec)
}

// expect: that an act leaves and is answered just that.
func expect(t *testing.T, r api.Record, there bool, a api.Act, want api.Record, wantThere bool, wantAnswer api.Answer) {
	t.Helper()
	got, gotThere, answer := Apply(r, there, a)
	if !exact(got, want) || gotThere != wantThere || !exactAnswers(answer, wantAnswer) {
		t.Errorf("%+v, %v, %s %+v: %+v, %v, %+v; not %+v, %v, %+v", r, there, act.Name(a.Kind), a, got, gotThere, answer, want, wantThere, wantAnswer)
	}
}

// refused: that an act is refused so, and all is as it was.
func refused(t *testing.T, r api.Record, there bool, a api.Act, e api.Errno) {
	t.Helper()
	want := r
	if !there {
		want = api.Record{}
	}
	expect(t, r, there, a, want, there, api.Answer{Code: e})
}

// P5.1

func TestWrongActsAreRefusedFirst(t *testing.T) {
	for _, c := range wrongActs() {
		refused(t, api.Record{}, false, c.a, c.e)
		for _, r := range plain() {
			refused(t, r, true, c.a, c.e)
			refused(t, r, false, c.a, c.e)
		}
		for _, w := range wrong() {
			refused(t, w.r, true, c.a, c.e)
			refused(t, w.r, false, c.a, c.e)
		}
	}
}

func TestWrongRecordsAreRefusedThen(t *testing.T) {
	for _, w := range wrong() {
		for _, a := range fit()[1:] {
			refused(t, w.r, true, a, w.e)
		}
	}
}

// TestWhatIsNotThereIsNotChecked: of none it doesn't matter what is handed in beside it.
func TestWhatIsNotThereIsNotChecked(t *testing.T) {
	given := plain()
	for _, w := range wrong() {
		given = append(given, w.r)
	}
	for _, r := range given {
		for k, a := range fit() {
			switch k {
			case act.None:
			case act.New:
				expect(t, r, false, a, a.Make, true, api.Answer{})
			case act.Is:
				expect(t, r, false, a, api.Record{}, false, api.Answer{})
			default:
				refused(t, r, false, a, api.ErrNone)
			}
		}
	}
}

// TestEveryKindUponEveryKind: only those for a record's kind, or for any, are done; a New isn't.
func TestEveryKindUponEveryKind(t *testing.T) {
	on := [act.Kinds]int{act.Put: 1, act.Swap: 1, act.Add: 2, act.Plus: 3, act.Reach: 3, act.In: 4, act.Out: 4, act.Enough: 4, act.Raise: 5, act.Lower: 6, act.Shift: 7, act.Scale: 7, act.Fix: 7, act.Join: 8, act.Leave: 8, act.Has: 8, act.Offer: 9}
	for kind, r := range plain() {
		for k, a := range fit() {
			if kind == rec.None || k == act.None {
				continue
			}
			switch {
			case k == act.New:
				refused(t, r, true, a, api.ErrThere)
			case on[k] != 0 && on[k] != kind:
				refused(t, r, true, a, api.ErrKind)
			default:
				if _, _, answer := Apply(r, true, a); answer.Code != api.OK {
					t.Errorf("%s upon %s: %v", act.Name(k), rec.Name(kind), answer.Code)
				}
			}
		}
	}
}

// TestKindIsRefusedAheadOfWhatItHolds: an act that would be refused anyhow is told that it is of another kind.
func TestKindIsRefusedAheadOfWhatItHolds(t *testing.T) {
	count := api.Record{Kind: rec.Count, Num: most}
	purse := api.Record{Kind: rec.Purse, Num: 0}
	top := api.Record{Kind: rec.Top, Cap: 1, List: named("a")}
	refused(t, purse, true, api.Act{Kind: act.Plus, Key: "a", N: most}, api.ErrKind)
	refused(t, purse, true, api.Act{Kind: act.Reach, Key: "a", N: 1}, api.ErrKind)
	refused(t, count, true, api.Act{Kind: act.Enough, Key: "a", N: 1}, api.ErrKind)
	refused(t, count, true, api.Act{Kind: act.In, Key: "a", N: 1}, api.ErrKind)
	refused(t, top, true, api.Act{Kind: act.Join, Key: "a", S: "b"}, api.ErrKind)
	refused(t, top, true, api.Act{Kind: act.Has, Key: "a", S: "b"}, api.ErrKind)
}

func TestKeyAndMustDoNotMatter(t *testing.T) {
	for _, r := range plain() {
		for _, a := range fit() {
			b := a
			b.Key, b.Must = long(24), true
			got, there, answer := Apply(r, true, a)
			other, otherThere, otherAnswer := Apply(r, true, b)
			if !exact(got, other) || there != otherThere || !exactAnswers(answer, otherAnswer) {
				t.Errorf("%+v, %+v", r, a)
			}
		}
	}
}

// TestWhatIsLeftMayBe: behind every act there is a record that may be, or the zero one.
func TestWhatIsLeftMayBe(t *testing.T) {
	for _, r := range plain() {
		for _, a := range fit() {
			got, there, _ := Apply(r, rec.Check(r) == api.OK, a)
			if there != (rec.Check(got) == api.OK) || !there && !exact(got, api.Record{}) {
				t.Errorf("%+v, %+v: %+v, %v", r, a, got, there)
			}
		}
	}
}

// P5.3

func TestRow(t *testing.T) {
	make := api.Act{Kind: act.New, Key: "a", Make: api.Record{Kind: rec.Count, Num: most - 1}}
	look := api.Act{Kind: act.Look, Key: "b"}
	plus := api.Act{Kind: act.Plus, Key: "c", N: 1}
	drop := api.Act{Kind: act.Drop, Key: "d", Must: true}
	is := api.Act{Kind: act.Is, Key: "e"}
	wrong := api.Act{Kind: act.Is}
	full := api.Record{Kind: rec.Count, Num: most}
	want := []api.Answer{
		{Code: api.ErrNone}, {}, {Code: api.ErrThere}, {Num: 3}, {}, {Rec: full}, {Code: api.ErrOver}, {Code: api.ErrRange}, {Rec: full}, {}, {Code: api.ErrNone}, {}, {},
	}
	acts := []api.Act{look, make, make, is, plus, look, plus, wrong, look, drop, drop, is, make}
	r, there, answers := Row(api.Record{Kind: rec.Sum, Num: 9}, false, acts...)
	if !exact(r, make.Make) || !there {
		t.Errorf("%+v, %v", r, there)
	}
	if !slices.EqualFunc(answers, want, exactAnswers) {
		t.Errorf("%+v, not %+v", answers, want)
	}
}

// TestRowIsApplyBehindApply: of each two acts upon each record.
func TestRowIsApplyBehindApply(t *testing.T) {
	for _, r := range plain() {
		for _, there := range []bool{false, true} {
			for _, a := range fit() {
				for _, b := range fit() {
					one, oneThere, first := Apply(r, there, a)
					two, twoThere, second := Apply(one, oneThere, b)
					got, gotThere, answers := Row(r, there, a, b)
					if !exact(got, two) || gotThere != twoThere || !slices.EqualFunc(answers, []api.Answer{first, second}, exactAnswers) {
						t.Fatalf("%+v, %v, %+v, %+v: %+v, %v, %+v", r, there, a, b, got, gotThere, answers)
					}
				}
			}
		}
	}
}

func TestRowOfNoActs(t *testing.T) {
	for _, r := range plain() {
		got, there, answers := Row(r, true)
		if !exact(got, r) || !there || len(answers) != 0 {
			t.Errorf("%+v: %+v, %v, %v", r, got, there, answers)
		}
		got, there, answers = Row(r, false)
		if !exact(got, api.Record{}) || there || len(answers) != 0 {
			t.Errorf("none: %+v, %v, %v", got, there, answers)
		}
	}
	for _, w := range wrong() {
		if got, there, answers := Row(w.r, true); !exact(got, w.r) || !there || len(answers) != 0 {
			t.Errorf("%+v: %+v, %v, %v", w.r, got, there, answers)
		}
	}
}

func TestRowUponWhatMayNotBe(t *testing.T) {
	for _, w := range wrong() {
		l := fit()
		got, there, answers := Row(w.r, true, l[1:]...)
		if !exact(got, w.r) || !there || len(answers) != len(l)-1 {
			t.Errorf("%+v: %+v, %v, %d", w.r, got, there, len(answers))
		}
		for _, answer := range answers {
			if !exactAnswers(answer, api.Answer{Code: w.e}) {
				t.Errorf("%+v: %+v", w.r, answer)
			}
		}
	}
}

func TestSame(t *testing.T) {
	list := api.Record{Kind: rec.Top, Cap: 2, List: []api.Item{{Score: 0, Name: "a"}}}
	lower := api.Record{Kind: rec.Top, Cap: 2, List: []api.Item{{Score: negZero, Name: "a"}}}
	unlike := []api.Answer{
		{},
		{Code: api.ErrRange},
		{Code: api.ErrNot},
		{Code: -1},
		{Num: 1},
		{Num: -1},
		{Num: least},
		{Code: api.ErrRange, Num: 1},
		{Rec: api.Record{Kind: rec.Sum}},
		{Rec: api.Record{Kind: rec.Count}},
		{Rec: api.Record{Kind: rec.Sum, Num: 1}},
		{Rec: api.Record{Real: negZero}},
		{Rec: api.Record{Real: oneNaN}},
		{Rec: list},
		{Rec: lower},
		{Num: 1, Rec: list},
		{Code: api.ErrNot, Rec: list},
	}
	for i, a := range unlike {
		for j, b := range unlike {
			if Same(a, b) != (i == j) {
				t.Errorf("%+v, %+v: %v", a, b, Same(a, b))
			}
		}
	}
	if !Same(api.Answer{Rec: api.Record{Real: oneNaN}}, api.Answer{Rec: api.Record{Real: otherNaN}}) {
		t.Error("what is no number, in two forms, has one place")
	}
	if !Same(api.Answer{}, api.Answer{Rec: api.Record{List: []api.Item{}}}) {
		t.Error("an empty list is none")
	}
}

// P2

// roomy: a record's clone whose list has spare room, and that room.
func roomy(r api.Record) (api.Record, []api.Item) {
	all := append(slices.Clone(r.List), make([]api.Item, 4)...)
	for i := len(r.List); i < len(all); i++ {
		all[i] = api.Item{Score: -77, Name: "spare"}
	}
	r.List = all[:len(r.List)]
	return r, all
}

// TestArgumentsAreLeft: neither lists nor their spare room are changed.
func TestArgumentsAreLeft(t *testing.T) {
	for _, plain := range plain() {
		for _, there := range []bool{false, true} {
			for _, a := range fit() {
				for _, s := range []string{"", "a", "aa", "b", "c"} {
					if act.Field(a.Kind, 's') {
						a.S = s
					}
					r, room := roomy(plain)
					_, want := roomy(plain)
					var makeRoom []api.Item
					a.Make, makeRoom = roomy(a.Make)
					wantMake := slices.Clone(makeRoom)
					Apply(r, there, a)
					Row(r, there, a, a)
					if !slices.Equal(room, want) || !slices.Equal(makeRoom, wantMake) {
						t.Fatalf("%+v: %+v, %+v", a, room, makeRoom)
					}
				}
			}
		}
	}
}

// spoil: changes all of a list, its spare room too.
func spoil(l []api.Item) {
	l = l[:cap(l)]
	for i := range l {
		l[i] = api.Item{Score: -99, Name: "spoilt"}
	}
}

// TestAnswersShareNothing: whatever is spoilt, arguments and other answers aren't.
func TestAnswersShareNothing(t *testing.T) {
	for _, plain := range plain() {
		for _, a := range append(fit(), wrongActs()[5].a) {
			r, room := roomy(plain)
			_, want := roomy(plain)
			got, _, answer := Apply(r, true, a)
			kept := rec.Clone(answer.Rec)
			spoil(got.List)
			if !exact(answer.Rec, kept) || !slices.Equal(room, want) {
				t.Fatalf("%+v upon %+v shares its record", a, plain)
			}
			spoil(answer.Rec.List)
			if !slices.Equal(room, want) {
				t.Fatalf("%+v upon %+v shares its answer", a, plain)
			}
		}
	}
}

func TestNewSharesNothing(t *testing.T) {
	make := api.Record{Kind: rec.Set, Cap: 4, List: named("a", "b")}
	got, _, _ := Apply(api.Record{}, false, api.Act{Kind: act.New, Key: "a", Make: make})
	spoil(got.List)
	if !slices.Equal(make.List, named("a", "b")) {
		t.Error("New shares its Make", make.List)
	}
}

func TestRowSharesNothing(t *testing.T) {
	look := api.Act{Kind: act.Look, Key: "a"}
	join := api.Act{Kind: act.Join, Key: "a", S: "c"}
	given := api.Record{Kind: rec.Set, Cap: 4, List: named("a", "b")}
	got, _, answers := Row(given, true, look, look, join, look)
	want := [][]api.Item{named("a", "b"), named("a", "b"), nil, named("a", "b", "c")}
	spoil(got.List)
	for i, answer := range answers {
		if !slices.Equal(answer.Rec.List, want[i]) {
			t.Errorf("answer %d: %+v", i, answer.Rec.List)
		}
		spoil(answer.Rec.List)
	}
	if !slices.Equal(given.List, named("a", "b")) {
		t.Error("the record handed in", given.List)
	}
	none, _, _ := Row(given, true)
	spoil(none.List)
	if !slices.Equal(given.List, named("a", "b")) {
		t.Error("a Row of no acts shares its record")
	}
}
