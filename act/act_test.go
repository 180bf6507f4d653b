package act

import (
	"math"
	"slices"
	"strings"
	"testing"

	"moiety/api"
	"moiety/rec"
)

// oneNaN is what is no number, in its one form; otherNaNs aren't in theirs.
var oneNaN = math.Float64frombits(0x7FF8000000000001)

var otherNaNs = []float64{
	math.Float64frombits(0x7FF8000000000000),
	math.Float64frombits(0x7FF0000000000001),
	math.Float64frombits(0xFFF8000000000001),
}

var negZero = math.Copysign(0, -1)

var noKinds = []int{math.MinInt, -21, -1, 0, 22, 23, 257, 1 << 32, math.MaxInt}

func long(n int) string { return strings.Repeat("x", n) }

// told is what the document tells of each kind; most is of S.
var told = []struct {
	kind   int
	name   string
	on     int
	reads  bool
	fields string
	most   int
}{
	{1, "new", 0, false, "m", 0},
	{2, "drop", 0, false, "", 0},
	{3, "is", 0, true, "", 0},
	{4, "look", 0, true, "", 0},
	{5, "put", 1, false, "s", 64},
	{6, "swap", 1, false, "s", 64},
	{7, "add", 2, false, "n", 0},
	{8, "plus", 3, false, "n", 0},
	{9, "reach", 3, true, "n", 0},
	{10, "in", 4, false, "n", 0},
	{11, "out", 4, false, "n", 0},
	{12, "enough", 4, true, "n", 0},
	{13, "raise", 5, false, "x", 0},
	{14, "lower", 6, false, "x", 0},
	{15, "shift", 7, false, "x", 0},
	{16, "scale", 7, false, "x", 0},
	{17, "fix", 7, false, "x", 0},
	{18, "join", 8, false, "s", 16},
	{19, "leave", 8, false, "s", 16},
	{20, "has", 8, true, "s", 16},
	{21, "offer", 9, false, "xs", 16},
}

// plain: an act of a kind that may be, with all that its kind has.
func plain(k int) api.Act {
	a := api.Act{Kind: k, Key: "key"}
	has := told[k-1].fields
	if strings.Contains(has, "n") {
		a.N = 5
	}
	if strings.Contains(has, "x") {
		a.X = 1.5
	}
	if strings.Contains(has, "s") {
		a.S = "abc"
	}
	if strings.Contains(has, "m") {
		a.Make = api.Record{Kind: rec.Set, Cap: 2, List: []api.Item{{Name: "a"}}}
	}
	return a
}

// withFields: the kinds that have all these fields.
func withFields(signs string) []int {
	var l []int
	for _, c := range told {
		if strings.Contains(c.fields, signs) {
			l = append(l, c.kind)
		}
	}
	return l
}

// P4.1

func TestKindsAreNumbered(t *testing.T) {
	got := []int{None, New, Drop, Is, Look, Put, Swap, Add, Plus, Reach, In, Out, Enough, Raise, Lower, Shift, Scale, Fix, Join, Leave, Has, Offer, Kinds}
	for i, k := range got {
		if k != i {
			t.Errorf("the kind at %d is %d", i, k)
		}
	}
	if MaxKey != 24 || MaxAmount != 2305843009213693952 {
		t.Error("bounds")
	}
}

func TestWhatIsToldOfKinds(t *testing.T) {
	for _, c := range told {
		if Name(c.kind) != c.name || On(c.kind) != c.on || Reads(c.kind) != c.reads {
			t.Errorf("%d: %q, %d, %v", c.kind, Name(c.kind), On(c.kind), Reads(c.kind))
		}
		for i := range 256 {
			if Field(c.kind, byte(i)) != (strings.IndexByte(c.fields, byte(i)) >= 0) {
				t.Errorf("%s: field %q", c.name, byte(i))
			}
		}
	}
}

func TestWhatIsToldOfNoKinds(t *testing.T) {
	for _, k := range noKinds {
		if Name(k) != "" || On(k) != 0 || Reads(k) {
			t.Errorf("%d: %q, %d, %v", k, Name(k), On(k), Reads(k))
		}
		for i := range 256 {
			if Field(k, byte(i)) {
				t.Errorf("%d: field %q", k, byte(i))
			}
		}
	}
}

// P4.2

func TestPlainActsMayBe(t *testing.T) {
	for _, c := range told {
		a := plain(c.kind)
		for _, must := range []bool{false, true} {
			a.Must = must
			if e := Check(a); e != api.OK {
				t.Errorf("%+v: %v", a, e)
			}
		}
	}
}

func TestZeroFieldsOfEachKind(t *testing.T) {
	for _, c := range told {
		want := api.OK
		if c.kind == New {
			want = api.ErrKind
		}
		if e := Check(api.Act{Kind: c.kind, Key: "a"}); e != want {
			t.Errorf("%s: %v", c.name, e)
		}
	}
}

func TestNoKinds(t *testing.T) {
	for _, k := range noKinds {
		if e := Check(api.Act{Kind: k, Key: "a"}); e != api.ErrKind {
			t.Errorf("%d: %v", k, e)
		}
		a := api.Act{Kind: k, N: -1, X: otherNaNs[0], S: long(99), Make: api.Record{Kind: 99}}
		if e := Check(a); e != api.ErrKind {
			t.Errorf("%d with all wrong: %v", k, e)
		}
	}
}

func TestKeys(t *testing.T) {
	for _, c := range told {
		for _, n := range []int{0, 1, 2, 23, 24, 25, 1000} {
			want := api.OK
			if n < 1 || n > 24 {
				want = api.ErrRange
			}
			a := plain(c.kind)
			a.Key = long(n)
			if e := Check(a); e != want {
				t.Errorf("%s upon a key of %d bytes: %v", c.name, n, e)
			}
		}
	}
	if e := Check(api.Act{Kind: Drop, Key: "\x00\xff"}); e != api.OK {
		t.Error("any bytes", e)
	}
	// Bytes count, not signs.
	if e := Check(api.Act{Kind: Drop, Key: strings.Repeat("é", 13)}); e != api.ErrRange {
		t.Error("26 bytes, 13 signs", e)
	}
}

// changes are changes of one field each, by its sign.
var changes = []struct {
	sign string
	put  func(a *api.Act)
}{
	{"n", func(a *api.Act) { a.N = 1 }},
	{"x", func(a *api.Act) { a.X = 1 }},
	{"x", func(a *api.Act) { a.X = negZero }},
	{"x", func(a *api.Act) { a.X = oneNaN }},
	{"x", func(a *api.Act) { a.X = math.Inf(-1) }},
	{"s", func(a *api.Act) { a.S = "s" }},
	{"m", func(a *api.Act) { a.Make = api.Record{Kind: rec.Sum} }},
	{"m", func(a *api.Act) { a.Make = api.Record{Kind: rec.Text, Text: "t"} }},
}

func TestFieldsOfOtherKinds(t *testing.T) {
	for _, c := range told {
		for i, f := range changes {
			a := plain(c.kind)
			f.put(&a)
			want := api.ErrForm
			if strings.Contains(c.fields, f.sign) {
				want = api.OK
			}
			if e := Check(a); e != want {
				t.Errorf("%s with change %d of %s: %v, not %v", c.name, i, f.sign, e, want)
			}
		}
	}
	a := api.Act{Kind: Drop, Key: "a", N: -1}
	if e := Check(a); e != api.ErrForm {
		t.Error("N below 0", e)
	}
}

func TestMakeOfOthersIsTheZeroRecord(t *testing.T) {
	for _, m := range []api.Record{
		{Kind: -1}, {Num: 1}, {Low: 1}, {High: 1}, {Real: 1}, {Real: negZero}, {Real: oneNaN}, {Cap: 1}, {Text: "t"}, {List: []api.Item{{}}},
	} {
		if e := Check(api.Act{Kind: Drop, Key: "a", Make: m}); e != api.ErrForm {
			t.Errorf("%+v: %v", m, e)
		}
	}
	if e := Check(api.Act{Kind: Drop, Key: "a", Make: api.Record{List: []api.Item{}}}); e != api.OK {
		t.Error("an empty list", e)
	}
}

func TestLengthsOfS(t *testing.T) {
	for _, k := range withFields("s") {
		most := told[k-1].most
		for _, n := range []int{0, 1, 15, 16, 17, 63, 64, 65, 1000} {
			want := api.OK
			if n > most {
				want = api.ErrLong
			}
			a := plain(k)
			a.S = long(n)
			if e := Check(a); e != want {
				t.Errorf("%s with %d bytes: %v", Name(k), n, e)
			}
		}
	}
}

func TestAmounts(t *testing.T) {
	const m = int64(1) << 61
	for _, k := range withFields("n") {
		for _, n := range []int64{math.MinInt64, -m, -1, 0, 1, m - 1, m, m + 1, math.MaxInt64} {
			want := api.OK
			if (k == In || k == Out) && (n < 0 || n > m) {
				want = api.ErrRange
			}
			if e := Check(api.Act{Kind: k, Key: "a", N: n}); e != want {
				t.Errorf("%s of %d: %v", Name(k), n, e)
			}
		}
	}
}

func TestFloatingNumbersInTheirOneForm(t *testing.T) {
	for _, k := range withFields("x") {
		for _, x := range []float64{math.Inf(-1), -1, negZero, 0, math.SmallestNonzeroFloat64, math.MaxFloat64, math.Inf(1), oneNaN} {
			if e := Check(api.Act{Kind: k, Key: "a", X: x}); e != api.OK {
				t.Errorf("%s of %v: %v", Name(k), x, e)
			}
		}
		for _, x := range otherNaNs {
			if e := Check(api.Act{Kind: k, Key: "a", X: x}); e != api.ErrForm {
				t.Errorf("%s of the bits %x: %v", Name(k), math.Float64bits(x), e)
			}
		}
	}
}

func TestMakeOfANew(t *testing.T) {
	for _, m := range []api.Record{
		{},
		{Kind: -1},
		{Kind: 10},
		{Kind: rec.Text, Num: 1},
		{Kind: rec.Text, Text: long(65)},
		{Kind: rec.Text, Text: long(64)},
		{Kind: rec.Purse, Low: 1},
		{Kind: rec.Peak, Real: otherNaNs[0]},
		{Kind: rec.Set},
		{Kind: rec.Set, Cap: 1, List: []api.Item{{Name: "a"}, {Name: "b"}}},
		{Kind: rec.Top, Cap: 2, List: []api.Item{{Name: "b"}, {Name: "a"}}},
		{Kind: rec.Count, Num: 3},
	} {
		if e := Check(api.Act{Kind: New, Key: "a", Make: m}); e != rec.Check(m) {
			t.Errorf("%+v: %v, not %v", m, e, rec.Check(m))
		}
	}
}

func TestOrderOfErrors(t *testing.T) {
	for _, c := range []struct {
		a api.Act
		e api.Errno
	}{
		{api.Act{Kind: 22, N: 1, S: long(99)}, api.ErrKind},
		{api.Act{Kind: Drop, N: 1}, api.ErrRange},
		{api.Act{Kind: New}, api.ErrRange},
		{api.Act{Kind: Put, S: long(65)}, api.ErrRange},
		{api.Act{Kind: Put, Key: "a", S: long(65), N: 1}, api.ErrForm},
		{api.Act{Kind: In, Key: "a", N: -1, X: 1}, api.ErrForm},
		{api.Act{Kind: In, Key: long(25), N: -1, X: 1}, api.ErrRange},
		{api.Act{Kind: New, Key: "a", Make: api.Record{Kind: 99}, N: 1}, api.ErrForm},
		{api.Act{Kind: Offer, Key: "a", X: otherNaNs[0], S: long(17)}, api.ErrLong},
		{api.Act{Kind: Offer, Key: "a", X: otherNaNs[0], S: long(17), N: 1}, api.ErrForm},
		{api.Act{Kind: Offer, Key: "a", X: otherNaNs[0], S: long(16)}, api.ErrForm},
	} {
		if e := Check(c.a); e != c.e {
			t.Errorf("%+v: %v, not %v", c.a, e, c.e)
		}
	}
}

func TestSame(t *testing.T) {
	for _, c := range told {
		a := plain(c.kind)
		for _, d := range told {
			if Same(a, plain(d.kind)) != (c.kind == d.kind) {
				t.Errorf("%s, %s", c.name, d.name)
			}
		}
		for i, f := range changes {
			b := a
			f.put(&b)
			if Same(a, b) || Same(b, a) {
				t.Errorf("%s: change %d of %s doesn't count", c.name, i, f.sign)
			}
		}
		for _, b := range []api.Act{
			{Kind: a.Kind, Key: "kez", N: a.N, X: a.X, S: a.S, Make: a.Make},
			{Kind: a.Kind, Key: a.Key, N: a.N, X: a.X, S: a.S, Make: a.Make, Must: true},
			{Kind: a.Kind + 100, Key: a.Key, N: a.N, X: a.X, S: a.S, Make: a.Make},
		} {
			if Same(a, b) || Same(b, a) {
				t.Errorf("%+v, %+v", a, b)
			}
		}
	}
}

func TestSameAsLayersBelowTellIt(t *testing.T) {
	for _, x := range otherNaNs {
		if !Same(api.Act{X: x}, api.Act{X: oneNaN}) || !Same(api.Act{Make: api.Record{Real: x}}, api.Act{Make: api.Record{Real: oneNaN}}) {
			t.Errorf("bits %x", math.Float64bits(x))
		}
	}
	if Same(api.Act{X: 0}, api.Act{X: negZero}) || !Same(api.Act{}, api.Act{Make: api.Record{List: []api.Item{}}}) {
		t.Error("noughts, lists")
	}
	a, b := plain(New), plain(New)
	b.Make.List = slices.Clone(b.Make.List)
	if !Same(a, b) {
		t.Error("lists of their own")
	}
	b.Make.List[0].Name = "z"
	if Same(a, b) {
		t.Error("lists that differ")
	}
}
