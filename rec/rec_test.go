package rec

import (
	"math"
	"slices"
	"strings"
	"testing"

	"moiety/api"
)

// oneNaN is what is no number, in its one form; otherNaNs aren't in theirs.
var oneNaN = math.Float64frombits(0x7FF8000000000001)

var otherNaNs = []float64{
	math.Float64frombits(0x7FF8000000000000),
	math.Float64frombits(0x7FF8000000000002),
	math.Float64frombits(0x7FF0000000000001),
	math.Float64frombits(0xFFF8000000000001),
	math.Float64frombits(0xFFFFFFFFFFFFFFFF),
}

var negZero = math.Copysign(0, -1)

// proper is floating numbers in their one form, in the order of layer 1.
var proper = []float64{
	math.Inf(-1), -math.MaxFloat64, -2, -math.SmallestNonzeroFloat64, negZero,
	0, math.SmallestNonzeroFloat64, 1, 2, math.MaxFloat64, math.Inf(1), oneNaN,
}

func long(n int) string { return strings.Repeat("x", n) }

// named: items without scores.
func named(names ...string) []api.Item {
	var l []api.Item
	for _, n := range names {
		l = append(l, api.Item{Name: n})
	}
	return l
}

// letters: that many names that rise.
func letters(n int) []api.Item {
	var l []api.Item
	for i := range n {
		l = append(l, api.Item{Name: string([]byte{byte(100 + i)})})
	}
	return l
}

// plain is a record of each kind that may be, with all that its kind has; by kind.
func plain() [Kinds]api.Record {
	return [Kinds]api.Record{
		Text:  {Kind: Text, Text: "ab"},
		Sum:   {Kind: Sum, Num: -7},
		Count: {Kind: Count, Num: 3},
		Purse: {Kind: Purse, Low: -2, High: 10, Num: 5},
		Peak:  {Kind: Peak, Real: 1.5},
		Dip:   {Kind: Dip, Real: -1.5},
		Level: {Kind: Level, Real: 2.5},
		Set:   {Kind: Set, Cap: 3, List: named("a", "b")},
		Top:   {Kind: Top, Cap: 3, List: []api.Item{{Score: 2, Name: "b"}, {Score: 1, Name: "a"}}},
	}
}

// P3.1

func TestKindsAreNumbered(t *testing.T) {
	got := []int{None, Text, Sum, Count, Purse, Peak, Dip, Level, Set, Top, Kinds}
	for i, k := range got {
		if k != i {
			t.Errorf("the kind at %d is %d", i, k)
		}
	}
	if MaxText != 64 || MaxName != 16 || MaxCap != 32 || MaxPurse != 2305843009213693952 {
		t.Error("bounds")
	}
}

func TestPlainRecordsMayBe(t *testing.T) {
	for k, r := range plain() {
		want := api.OK
		if k == None {
			want = api.ErrKind
		}
		if e := Check(r); e != want {
			t.Errorf("%+v: %v", r, e)
		}
	}
}

func TestZeroFieldsOfEachKind(t *testing.T) {
	for k := range Kinds {
		want := api.OK
		switch k {
		case None:
			want = api.ErrKind
		case Set, Top:
			want = api.ErrRange
		}
		if e := Check(api.Record{Kind: k}); e != want {
			t.Errorf("kind %d alone: %v", k, e)
		}
	}
}

func TestNoKinds(t *testing.T) {
	for _, k := range []int{math.MinInt, -9, -1, 0, 10, 11, 257, 1 << 32, math.MaxInt} {
		r := api.Record{Kind: k}
		if e := Check(r); e != api.ErrKind {
			t.Errorf("kind %d: %v", k, e)
		}
		r = api.Record{Kind: k, Num: 1, Low: 5, High: 1, Real: otherNaNs[0], Cap: 99, Text: long(99), List: named("b", "a")}
		if e := Check(r); e != api.ErrKind {
			t.Errorf("kind %d with all wrong: %v", k, e)
		}
	}
}

// fields are changes of one field each, and the kinds that have it.
var fields = []struct {
	name  string
	put   func(r *api.Record)
	kinds []int
}{
	{"Num", func(r *api.Record) { r.Num = 1 }, []int{Sum, Count, Purse}},
	{"Num below", func(r *api.Record) { r.Num = -1 }, []int{Sum, Count, Purse}},
	{"Low", func(r *api.Record) { r.Low = -1 }, []int{Purse}},
	{"High", func(r *api.Record) { r.High = 7 }, []int{Purse}},
	{"Real", func(r *api.Record) { r.Real = 1 }, []int{Peak, Dip, Level}},
	{"Real nought below nought", func(r *api.Record) { r.Real = negZero }, []int{Peak, Dip, Level}},
	{"Real no number", func(r *api.Record) { r.Real = oneNaN }, []int{Peak, Dip, Level}},
	{"Cap", func(r *api.Record) { r.Cap = 4 }, []int{Set, Top}},
	{"Text", func(r *api.Record) { r.Text = "c" }, []int{Text}},
	{"List", func(r *api.Record) { r.List = named("") }, []int{Set, Top}},
}

func TestFieldsOfOtherKinds(t *testing.T) {
	for k := Text; k < Kinds; k++ {
		for _, f := range fields {
			r := plain()[k]
			f.put(&r)
			want := api.ErrForm
			if slices.Contains(f.kinds, k) {
				want = api.OK
			}
			if e := Check(r); e != want {
				t.Errorf("%s of a %s: %v, not %v", f.name, Name(k), e, want)
			}
		}
	}
}

func TestAnEmptyListIsZero(t *testing.T) {
	for k := Text; k < Set; k++ {
		r := plain()[k]
		r.List = []api.Item{}
		if e := Check(r); e != api.OK {
			t.Errorf("%s: %v", Name(k), e)
		}
	}
}

func TestOtherFieldsAreToldAheadOfWhatIsWrongWithOwnOnes(t *testing.T) {
	for _, r := range []api.Record{
		{Kind: Text, Text: long(65), Num: 1},
		{Kind: Purse, Low: 2, High: 1, Num: 5, Cap: 1},
		{Kind: Set, Cap: 0, Text: "a"},
		{Kind: Set, Cap: 33, Real: negZero},
		{Kind: Top, Cap: 1, List: letters(2), Num: 1},
		{Kind: Top, Cap: 1, List: named(long(17)), Low: 1},
	} {
		if e := Check(r); e != api.ErrForm {
			t.Errorf("%+v: %v", r, e)
		}
	}
}

func TestTexts(t *testing.T) {
	for _, c := range []struct {
		n int
		e api.Errno
	}{{0, api.OK}, {1, api.OK}, {63, api.OK}, {64, api.OK}, {65, api.ErrLong}, {1000, api.ErrLong}} {
		if e := Check(api.Record{Kind: Text, Text: long(c.n)}); e != c.e {
			t.Errorf("%d bytes: %v", c.n, e)
		}
	}
	// Bytes count, not signs.
	if e := Check(api.Record{Kind: Text, Text: strings.Repeat("é", 33)}); e != api.ErrLong {
		t.Error("66 bytes, 33 signs", e)
	}
	if e := Check(api.Record{Kind: Text, Text: "\x00\xff"}); e != api.OK {
		t.Error("any bytes", e)
	}
}

func TestSumsAndCountsMayBeAnyNumber(t *testing.T) {
	for _, k := range []int{Sum, Count} {
		for _, n := range []int64{math.MinInt64, -MaxPurse - 1, -1, 0, 1, MaxPurse + 1, math.MaxInt64} {
			if e := Check(api.Record{Kind: k, Num: n}); e != api.OK {
				t.Errorf("a %s of %d: %v", Name(k), n, e)
			}
		}
	}
}

func TestPurses(t *testing.T) {
	const m = int64(1) << 61
	for _, c := range []struct {
		low, high, num int64
		e              api.Errno
	}{
		{0, 0, 0, api.OK},
		{-m, m, 0, api.OK},
		{-m, m, m, api.OK},
		{-m, m, -m, api.OK},
		{m, m, m, api.OK},
		{-m, -m, -m, api.OK},
		{-m + 1, m - 1, 0, api.OK},
		{-m - 1, m, 0, api.ErrRange},
		{-m, m + 1, 0, api.ErrRange},
		{-m, m, m + 1, api.ErrRange},
		{-m, m, -m - 1, api.ErrRange},
		{m + 1, m + 1, m + 1, api.ErrRange},
		{-m - 1, -m - 1, -m - 1, api.ErrRange},
		{3, 5, 2, api.ErrRange},
		{3, 5, 3, api.OK},
		{3, 5, 4, api.OK},
		{3, 5, 5, api.OK},
		{3, 5, 6, api.ErrRange},
		{5, 3, 4, api.ErrRange},
		{5, 3, 5, api.ErrRange},
		{5, 3, 3, api.ErrRange},
		{-5, -3, -2, api.ErrRange},
		{math.MinInt64, math.MaxInt64, 0, api.ErrRange},
		{math.MinInt64, 0, 0, api.ErrRange},
		{0, math.MaxInt64, 0, api.ErrRange},
	} {
		if e := Check(api.Record{Kind: Purse, Low: c.low, High: c.high, Num: c.num}); e != c.e {
			t.Errorf("%d to %d, %d: %v", c.low, c.high, c.num, e)
		}
	}
}

func TestFloatingNumbersInTheirOneForm(t *testing.T) {
	for _, k := range []int{Peak, Dip, Level} {
		for _, x := range proper {
			if e := Check(api.Record{Kind: k, Real: x}); e != api.OK {
				t.Errorf("a %s of %v: %v", Name(k), x, e)
			}
		}
		for _, x := range otherNaNs {
			if e := Check(api.Record{Kind: k, Real: x}); e != api.ErrForm {
				t.Errorf("a %s of the bits %x: %v", Name(k), math.Float64bits(x), e)
			}
		}
	}
}

func TestCaps(t *testing.T) {
	for _, k := range []int{Set, Top} {
		for _, c := range []struct {
			most, n int
			e       api.Errno
		}{
			{math.MinInt, 0, api.ErrRange}, {-1, 0, api.ErrRange}, {0, 0, api.ErrRange}, {0, 1, api.ErrRange},
			{1, 0, api.OK}, {1, 1, api.OK}, {1, 2, api.ErrFull},
			{2, 1, api.OK}, {2, 2, api.OK}, {2, 3, api.ErrFull},
			{31, 32, api.ErrFull}, {32, 31, api.OK}, {32, 32, api.OK}, {32, 33, api.ErrFull},
			{33, 0, api.ErrRange}, {33, 33, api.ErrRange}, {33, 40, api.ErrRange}, {math.MaxInt, 1, api.ErrRange},
		} {
			if e := Check(api.Record{Kind: k, Cap: c.most, List: letters(c.n)}); e != c.e {
				t.Errorf("a %s of Cap %d with %d items: %v", Name(k), c.most, c.n, e)
			}
		}
	}
	// More items than the Cap are told ahead of what is wrong with one.
	if e := Check(api.Record{Kind: Set, Cap: 1, List: named(long(17), "a")}); e != api.ErrFull {
		t.Error("too many, and too long", e)
	}
	if e := Check(api.Record{Kind: Top, Cap: 0, List: named("b", "a")}); e != api.ErrRange {
		t.Error("no Cap, too many, and out of order", e)
	}
}

func TestItemsOfASet(t *testing.T) {
	for _, c := range []struct {
		l []api.Item
		e api.Errno
	}{
		{named(""), api.OK},
		{named("", "\x00", "\x00\x00", "\x01", "A", "a", "aa", "b", "\xff"), api.OK},
		{named("a", "a"), api.ErrForm},
		{named("", ""), api.ErrForm},
		{named("b", "a"), api.ErrForm},
		{named("aa", "a"), api.ErrForm},
		{named("a", "b", "ab"), api.ErrForm},
		{named("\xff", "a"), api.ErrForm},
		{named(long(15)), api.OK},
		{named(long(16)), api.OK},
		{named(long(17)), api.ErrLong},
		{named("a", long(17)), api.ErrLong},
		{[]api.Item{{Score: 1, Name: "a"}}, api.ErrForm},
		{[]api.Item{{Score: negZero, Name: "a"}}, api.ErrForm},
		{[]api.Item{{Score: oneNaN, Name: "a"}}, api.ErrForm},
		{[]api.Item{{Name: "a"}, {Score: -1, Name: "b"}}, api.ErrForm},
		// The first item that is wrong is told, of one its Name ahead of the others.
		{[]api.Item{{Score: 1, Name: long(17)}}, api.ErrLong},
		{named("b", "a", long(17)), api.ErrForm},
		{named(long(17), "b", "a"), api.ErrLong},
		{[]api.Item{{Score: 1, Name: "a"}, {Name: long(17)}}, api.ErrForm},
		{named("y", long(17)), api.ErrLong},
	} {
		if e := Check(api.Record{Kind: Set, Cap: 9, List: c.l}); e != c.e {
			t.Errorf("%v: %v, not %v", c.l, e, c.e)
		}
	}
}

func TestItemsOfATop(t *testing.T) {
	for _, c := range []struct {
		l []api.Item
		e api.Errno
	}{
		{[]api.Item{{Score: 2, Name: "b"}, {Score: 1, Name: "a"}}, api.OK},
		{[]api.Item{{Score: 2, Name: "a"}, {Score: 2, Name: "b"}}, api.OK},
		{[]api.Item{{Score: 2, Name: "a"}, {Score: 1, Name: "a"}}, api.OK},
		{[]api.Item{{Score: 1, Name: "a"}, {Score: 2, Name: "b"}}, api.ErrForm},
		{[]api.Item{{Score: 2, Name: "b"}, {Score: 2, Name: "a"}}, api.ErrForm},
		{[]api.Item{{Score: 2, Name: "a"}, {Score: 2, Name: "a"}}, api.ErrForm},
		{[]api.Item{{Score: 0, Name: "b"}, {Score: negZero, Name: "a"}}, api.OK},
		{[]api.Item{{Score: negZero, Name: "a"}, {Score: 0, Name: "b"}}, api.ErrForm},
		{[]api.Item{{Score: oneNaN, Name: "b"}, {Score: math.Inf(1), Name: "a"}, {Score: 0, Name: ""}, {Score: math.Inf(-1), Name: "a"}}, api.OK},
		{[]api.Item{{Score: oneNaN, Name: "a"}, {Score: oneNaN, Name: "b"}}, api.OK},
		{[]api.Item{{Score: oneNaN, Name: "b"}, {Score: oneNaN, Name: "a"}}, api.ErrForm},
		{[]api.Item{{Score: math.Inf(1), Name: "a"}, {Score: oneNaN, Name: "b"}}, api.ErrForm},
		{[]api.Item{{Score: otherNaNs[0], Name: "a"}}, api.ErrForm},
		{[]api.Item{{Score: 2, Name: "a"}, {Score: otherNaNs[3], Name: "b"}}, api.ErrForm},
		{[]api.Item{{Score: 1, Name: long(16)}}, api.OK},
		{[]api.Item{{Score: 1, Name: long(17)}}, api.ErrLong},
		{[]api.Item{{Score: otherNaNs[0], Name: long(17)}}, api.ErrLong},
		{[]api.Item{{Score: 1, Name: "a"}, {Score: 2, Name: long(17)}}, api.ErrLong},
		{[]api.Item{{Score: 1, Name: "a"}, {Score: 2, Name: "b"}, {Score: 1, Name: long(17)}}, api.ErrForm},
	} {
		if e := Check(api.Record{Kind: Top, Cap: 9, List: c.l}); e != c.e {
			t.Errorf("%v: %v, not %v", c.l, e, c.e)
		}
	}
	var falling []api.Item
	for i := range proper {
		falling = append(falling, api.Item{Score: proper[len(proper)-1-i], Name: "same"})
	}
	if e := Check(api.Record{Kind: Top, Cap: 32, List: falling}); e != api.OK {
		t.Error("all scores, falling", e)
	}
}

// P3.2

func TestNames(t *testing.T) {
	want := []string{"", "text", "sum", "count", "purse", "peak", "dip", "level", "set", "top", ""}
	for k, s := range want {
		if Name(k) != s {
			t.Errorf("%d: %q", k, Name(k))
		}
	}
	for _, k := range []int{math.MinInt, -1, 10, 11, math.MaxInt} {
		if Name(k) != "" {
			t.Errorf("%d: %q", k, Name(k))
		}
	}
}

func TestBetter(t *testing.T) {
	names := []string{"", "\x00", "A", "a", "aa", "b", "\xff"}
	for i, x := range proper {
		for j, y := range proper {
			for m, a := range names {
				for n, b := range names {
					want := i > j || i == j && m < n
					if got := Better(api.Item{Score: x, Name: a}, api.Item{Score: y, Name: b}); got != want {
						t.Fatalf("%v %q, %v %q: %v", x, a, y, b, got)
					}
				}
			}
		}
	}
	// What is no number has one place, whatever its bits.
	for _, x := range otherNaNs {
		a, b := api.Item{Score: x, Name: "a"}, api.Item{Score: oneNaN, Name: "b"}
		if !Better(a, b) || Better(b, a) || !Better(a, api.Item{Score: math.Inf(1)}) {
			t.Errorf("bits %x", math.Float64bits(x))
		}
	}
}

func TestSame(t *testing.T) {
	for k, r := range plain() {
		for l, s := range plain() {
			if Same(r, s) != (k == l) {
				t.Errorf("%+v, %+v", r, s)
			}
		}
		for _, f := range fields {
			s := r
			s.List = slices.Clone(r.List)
			f.put(&s)
			if Same(r, s) || Same(s, r) {
				t.Errorf("%s of %+v doesn't count", f.name, r)
			}
		}
	}
}

func TestSameTellsFloatingNumbersByTheirPlace(t *testing.T) {
	a, b := api.Record{Kind: Level, Real: 0}, api.Record{Kind: Level, Real: negZero}
	if Same(a, b) || !Same(b, b) {
		t.Error("noughts")
	}
	for _, x := range otherNaNs {
		if !Same(api.Record{Real: x}, api.Record{Real: oneNaN}) || !Same(api.Record{List: []api.Item{{Score: x}}}, api.Record{List: []api.Item{{Score: oneNaN}}}) {
			t.Errorf("bits %x", math.Float64bits(x))
		}
	}
	if Same(api.Record{List: []api.Item{{Score: 0}}}, api.Record{List: []api.Item{{Score: negZero}}}) {
		t.Error("noughts as scores")
	}
}

func TestSameTellsListsItemByItem(t *testing.T) {
	of := func(names ...string) api.Record { return api.Record{Kind: Set, Cap: 4, List: named(names...)} }
	if !Same(of("a", "b"), of("a", "b")) || !Same(of(), api.Record{Kind: Set, Cap: 4, List: []api.Item{}}) {
		t.Error("the same")
	}
	for _, s := range []api.Record{of(), of("a"), of("b", "a"), of("a", "c"), of("a", "b", "c"), of("a", "b", "")} {
		if Same(of("a", "b"), s) || Same(s, of("a", "b")) {
			t.Errorf("%+v", s)
		}
	}
}

func TestClone(t *testing.T) {
	spare := make([]api.Item, 2, 5)
	wrong := api.Record{Kind: -3, Num: 1, Low: 2, High: 3, Real: 4, Cap: -5, Text: "t", List: spare}
	all := plain()
	for _, r := range append(all[:], wrong) {
		c := Clone(r)
		if !Same(c, r) {
			t.Errorf("%+v became %+v", r, c)
		}
		if len(r.List) == 0 {
			continue
		}
		before := slices.Clone(r.List)
		c.List[0] = api.Item{Score: 99, Name: "zz"}
		_ = append(c.List, api.Item{Name: "more"})
		if !slices.Equal(before, r.List) || cap(r.List) > len(r.List) && r.List[:len(r.List)+1][len(r.List)] != (api.Item{}) {
			t.Errorf("%+v shares its list", r)
		}
	}
}
