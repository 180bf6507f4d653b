package shelf

import (
	"math"
	"slices"
	"strings"
	"testing"

	"moiety/api"
	"moiety/rec"
)

var (
	oneNaN   = math.Float64frombits(0x7FF8000000000001)
	otherNaN = math.Float64frombits(0xFFF8000000000003)
	negZero  = math.Copysign(0, -1)
)

func long(n int) string { return strings.Repeat("x", n) }

func sum(n int) api.Record { return api.Record{Kind: rec.Sum, Num: int64(n)} }

// named: a Set of names.
func named(names ...string) api.Record {
	r := api.Record{Kind: rec.Set, Cap: 32}
	for _, n := range names {
		r.List = append(r.List, api.Item{Name: n})
	}
	return r
}

// plain is a record of each kind, and some at the edges.
func plain() []api.Record {
	return []api.Record{
		{Kind: rec.Text, Text: long(64)},
		{Kind: rec.Text},
		sum(math.MinInt),
		{Kind: rec.Count, Num: math.MaxInt64},
		{Kind: rec.Purse, Low: -rec.MaxPurse, High: rec.MaxPurse, Num: 5},
		{Kind: rec.Peak, Real: negZero},
		{Kind: rec.Dip, Real: math.Inf(-1)},
		{Kind: rec.Level, Real: oneNaN},
		named("", "a", "b"),
		{Kind: rec.Top, Cap: 3, List: []api.Item{{Score: 0, Name: "b"}, {Score: negZero, Name: "a"}}},
	}
}

// wrong is records that may not be, and what is wrong.
func wrong() []struct {
	r api.Record
	e api.Errno
} {
	return []struct {
		r api.Record
		e api.Errno
	}{
		{api.Record{}, api.ErrKind},
		{api.Record{Kind: -1, Num: 4}, api.ErrKind},
		{api.Record{Kind: rec.Kinds}, api.ErrKind},
		{api.Record{Kind: math.MaxInt}, api.ErrKind},
		{api.Record{Kind: rec.Text, Num: 1}, api.ErrForm},
		{api.Record{Kind: rec.Text, Text: long(65)}, api.ErrLong},
		{api.Record{Kind: rec.Purse, High: 3, Num: 4}, api.ErrRange},
		{api.Record{Kind: rec.Level, Real: otherNaN}, api.ErrForm},
		{api.Record{Kind: rec.Set, Cap: 1, List: named("a", "b").List}, api.ErrFull},
		{api.Record{Kind: rec.Set, Cap: 33}, api.ErrRange},
	}
}

func sameBits(x, y float64) bool { return math.Float64bits(x) == math.Float64bits(y) }

// exact: two records, bit by bit.
func exact(a, b api.Record) bool {
	items := slices.EqualFunc(a.List, b.List, func(x, y api.Item) bool {
		return sameBits(x.Score, y.Score) && x.Name == y.Name
	})
	return items && sameBits(a.Real, b.Real) && a.Kind == b.Kind && a.Num == b.Num &&
		a.Low == b.Low && a.High == b.High && a.Cap == b.Cap && a.Text == b.Text
}

// roomFor: an empty shelf.
func roomFor(t *testing.T, room int) Shelf {
	t.Helper()
	s, e := New(room)
	if e != api.OK {
		t.Fatalf("New of %d: %v", room, e)
	}
	return s
}

// set: a shelf with a record, which must be let in.
func set(t *testing.T, s Shelf, key string, r api.Record) Shelf {
	t.Helper()
	end, e := s.Set(key, r)
	if e != api.OK {
		t.Fatalf("Set of %q: %v", key, e)
	}
	return end
}

// holding: a shelf with these keys, the i-th of which has the Sum i.
func holding(t *testing.T, room int, keys ...string) Shelf {
	t.Helper()
	s := roomFor(t, room)
	for i, key := range keys {
		s = set(t, s, key, sum(i))
	}
	return s
}

// listing is what is on a shelf, as tests keep it.
type listing map[string]api.Record

func (l listing) keys() []string {
	keys := []string{}
	for key := range l {
		keys = append(keys, key)
	}
	slices.Sort(keys)
	return keys
}

func (l listing) clone() listing {
	out := listing{}
	for key, r := range l {
		out[key] = r
	}
	return out
}

// expect: that a shelf has just that.
func expect(t *testing.T, s Shelf, room int, want listing) {
	t.Helper()
	if s.Room() != room || s.Len() != len(want) {
		t.Fatalf("room %d, len %d; not %d, %d", s.Room(), s.Len(), room, len(want))
	}
	for i, key := range want.keys() {
		k, r, ok := s.At(i)
		if k != key || !exact(r, want[key]) || !ok {
			t.Fatalf("At %d: %q, %+v, %v; not %q, %+v", i, k, r, ok, key, want[key])
		}
		if r, ok := s.Get(key); !exact(r, want[key]) || !ok {
			t.Fatalf("Get of %q: %+v, %v", key, r, ok)
		}
		if s.Rank(key) != i || s.Rank(key+"\x00") != i+1 {
			t.Fatalf("Rank of %q: %d, %d", key, s.Rank(key), s.Rank(key+"\x00"))
		}
	}
}

// P9.1

func TestNew(t *testing.T) {
	for _, room := range []int{1, 2, 3, 100, 4095, 4096} {
		s, e := New(room)
		if e != api.OK || s.Room() != room || s.Len() != 0 || s.High() != 0 {
			t.Errorf("New of %d: %v, room %d, len %d, high %d", room, e, s.Room(), s.Len(), s.High())
		}
	}
	for _, room := range []int{math.MinInt, -4096, -1, 0, 4097, 8192, math.MaxInt} {
		s, e := New(room)
		if e != api.ErrRange || s != (Shelf{}) {
			t.Errorf("New of %d: %v, %+v", room, e, s)
		}
	}
}

func TestZeroShelf(t *testing.T) {
	var s Shelf
	expect(t, s, 0, listing{})
	if s.High() != 0 || s.Rank("a") != 0 || len(s.Keys("", "z", 5)) != 0 {
		t.Error("something is on it")
	}
	if end, e := s.Set("a", sum(1)); e != api.ErrFull || end != s {
		t.Error("Set", e)
	}
	if _, e := s.Set("", sum(1)); e != api.ErrRange {
		t.Error("Set of no key", e)
	}
	if _, e := s.Set("a", api.Record{}); e != api.ErrKind {
		t.Error("Set of no record", e)
	}
	if end, ok := s.Cut("a"); ok || end != s {
		t.Error("Cut")
	}
	if r, ok := s.Get("a"); ok || !exact(r, api.Record{}) {
		t.Error("Get", r)
	}
}

func TestRoomIsJustThatMuch(t *testing.T) {
	for _, room := range []int{1, 2, 7, 4096} {
		s := roomFor(t, room)
		for i := range room {
			s = set(t, s, string([]byte{'k', byte(i >> 8), byte(i)}), sum(i))
			if s.Len() != i+1 || s.Room() != room {
				t.Fatalf("len %d, room %d behind %d", s.Len(), s.Room(), i+1)
			}
		}
		if end, e := s.Set("j", sum(0)); e != api.ErrFull || end != s {
			t.Errorf("one more than %d: %v", room, e)
		}
		if s = set(t, s, "k\x00\x00", sum(-5)); s.Len() != room {
			t.Errorf("one in place of another one: %d", s.Len())
		}
		s, ok := s.Cut("k\x00\x00")
		if s = set(t, s, "j", sum(0)); !ok || s.Len() != room {
			t.Errorf("one behind a Cut: %v, %d", ok, s.Len())
		}
		if _, e := s.Set("k\x00\x00", sum(1)); e != api.ErrFull {
			t.Errorf("one more than %d, behind a Cut: %v", room, e)
		}
	}
}

// P9.2

func TestSetAndGet(t *testing.T) {
	for _, r := range plain() {
		for _, key := range []string{"a", "\x00", "\xff", "a\x00", long(23), long(24)} {
			s := holding(t, 3, "b")
			s = set(t, s, key, r)
			expect(t, s, 3, listing{"b": sum(0), key: r})
			for _, other := range plain() {
				expect(t, set(t, s, key, other), 3, listing{"b": sum(0), key: other})
			}
		}
	}
}

func TestGetOfNone(t *testing.T) {
	s := holding(t, 9, "b", "a", "bb", long(24))
	for _, key := range []string{"", "aa", "A", "b\x00", "bbb", "c", "\x00", "\xff", long(23), long(25), long(1000)} {
		if r, ok := s.Get(key); ok || !exact(r, api.Record{}) {
			t.Errorf("Get of %q: %+v, %v", key, r, ok)
		}
	}
}

// refuses: that a Set is refused so, and the shelf is as it was.
func refuses(t *testing.T, s Shelf, key string, r api.Record, want api.Errno) {
	t.Helper()
	end, e := s.Set(key, r)
	if e != want || end != s {
		t.Errorf("Set of %q, %+v: %v, %d on it; not %v", key, r, e, end.Len(), want)
	}
}

func TestSetRefuses(t *testing.T) {
	full := holding(t, 2, "a", "b")
	roomy := holding(t, 3, "a", "b")
	for _, s := range []Shelf{full, roomy, {}} {
		for _, key := range []string{"", long(25), long(26), long(1000)} {
			refuses(t, s, key, sum(1), api.ErrRange)
			for _, w := range wrong() {
				refuses(t, s, key, w.r, api.ErrRange)
			}
		}
		for _, w := range wrong() {
			refuses(t, s, "a", w.r, w.e)
			refuses(t, s, "c", w.r, w.e)
		}
	}
	refuses(t, full, "c", sum(1), api.ErrFull)
	refuses(t, full, "\x00", sum(1), api.ErrFull)
	refuses(t, full, long(24), sum(1), api.ErrFull)
	expect(t, full, 2, listing{"a": sum(0), "b": sum(1)})
	expect(t, set(t, full, "b", sum(7)), 2, listing{"a": sum(0), "b": sum(7)})
}

// TestExample is the chapter's own.
func TestExample(t *testing.T) {
	s := holding(t, 1, "a")
	s, e := s.Set("b", sum(1))
	if e != api.ErrFull {
		t.Error(e)
	}
	expect(t, s, 1, listing{"a": sum(0)})
}

func TestCut(t *testing.T) {
	s := holding(t, 4, "b", "a", "c")
	for _, key := range []string{"", "aa", "d", "A", long(24), long(99)} {
		if end, ok := s.Cut(key); ok || end != s {
			t.Errorf("Cut of %q", key)
		}
	}
	end, ok := s.Cut("b")
	if !ok {
		t.Error("Cut of b")
	}
	expect(t, end, 4, listing{"a": sum(1), "c": sum(2)})
	if again, ok := end.Cut("b"); ok || again != end {
		t.Error("Cut of b once more")
	}
	end, _ = end.Cut("a")
	end, ok = end.Cut("c")
	if !ok {
		t.Error("Cut of c")
	}
	expect(t, end, 4, listing{})
	expect(t, s, 4, listing{"b": sum(0), "a": sum(1), "c": sum(2)})
}

// P9.3

func TestAtOfNone(t *testing.T) {
	for n := range 6 {
		s := holding(t, 9, []string{"e", "a", "d", "b", "c"}[:n]...)
		for _, i := range []int{math.MinInt, -n - 1, -n, -2, -1, n, n + 1, 2 * n, math.MaxInt} {
			if i >= 0 && i < n {
				continue
			}
			if k, r, ok := s.At(i); k != "" || !exact(r, api.Record{}) || ok {
				t.Errorf("At %d of %d: %q, %+v, %v", i, n, k, r, ok)
			}
		}
	}
}

func TestKeysRiseByteByByte(t *testing.T) {
	rising := []string{"\x00", "\x00\x00", "A", "Z", "a", "a\x00", "aa", "ab", "b", "z", "ä", "\xff", "\xff\x00", "\xff\xff"}
	falling := slices.Clone(rising)
	slices.Reverse(falling)
	for _, keys := range [][]string{rising, falling} {
		s := holding(t, 99, keys...)
		if got := s.Keys("", "\xff\xff\xff", 99); !slices.Equal(got, rising) {
			t.Errorf("%q", got)
		}
		for i, key := range rising {
			if got, _, _ := s.At(i); got != key {
				t.Errorf("At %d: %q", i, got)
			}
		}
	}
}

func TestRank(t *testing.T) {
	s := holding(t, 9, "d", "b", "f")
	for key, want := range map[string]int{"": 0, "a": 0, "b": 0, "b\x00": 1, "c": 1, "d": 1, "da": 2, "e": 2, "f": 2, "g": 3, long(25): 3, "\xff": 3} {
		if got := s.Rank(key); got != want {
			t.Errorf("Rank of %q: %d, not %d", key, got, want)
		}
	}
}

func TestKeys(t *testing.T) {
	s := holding(t, 9, "d", "b", "f", "h")
	for _, c := range []struct {
		from, to string
		most     int
		want     []string
	}{
		{"", "z", 9, []string{"b", "d", "f", "h"}},
		{"", "z", 4, []string{"b", "d", "f", "h"}},
		{"", "z", 3, []string{"b", "d", "f"}},
		{"", "z", 1, []string{"b"}},
		{"", "z", 0, nil},
		{"", "z", -1, nil},
		{"", "z", math.MinInt, nil},
		{"", "z", math.MaxInt, []string{"b", "d", "f", "h"}},
		{"b", "h", 9, []string{"b", "d", "f"}},
		{"b\x00", "h\x00", 9, []string{"d", "f", "h"}},
		{"c", "g", 9, []string{"d", "f"}},
		{"c", "g", 1, []string{"d"}},
		{"d", "d", 9, nil},
		{"d", "d\x00", 9, []string{"d"}},
		{"e", "e", 9, nil},
		{"h", "b", 9, nil},
		{"z", "", 9, nil},
		{"h", "d", math.MaxInt, nil},
		{"", "", 9, nil},
		{"", "a", 9, nil},
		{"i", "z", 9, nil},
		{long(99), long(200), 9, nil},
	} {
		if got := s.Keys(c.from, c.to, c.most); !slices.Equal(got, c.want) {
			t.Errorf("Keys %q, %q, %d: %q", c.from, c.to, c.most, got)
		}
	}
}

func TestSame(t *testing.T) {
	put := func(s Shelf, key string, r api.Record) Shelf { return set(t, s, key, r) }
	level := func(x float64) api.Record { return api.Record{Kind: rec.Level, Real: x} }
	shelves := []Shelf{
		roomFor(t, 9),
		holding(t, 9, "a"),
		holding(t, 9, "b"),
		holding(t, 9, "a", "b"),
		holding(t, 9, "b", "a"),
		holding(t, 9, "a", "b", "c"),
		put(roomFor(t, 9), "a", level(0)),
		put(roomFor(t, 9), "a", level(negZero)),
		put(roomFor(t, 9), "a", level(oneNaN)),
		put(roomFor(t, 9), "a", named("p")),
		put(roomFor(t, 9), "a", named("q")),
		put(roomFor(t, 9), "a", named("p", "q")),
		put(holding(t, 9, "a", "b", "c"), "b", sum(7)),
		put(holding(t, 9, "a", "b", "c"), "c", sum(7)),
	}
	for i, a := range shelves {
		for j, b := range shelves {
			if Same(a, b) != (i == j) {
				t.Errorf("%d and %d", i, j)
			}
		}
	}
}

func TestSameByWhatIsThereAlone(t *testing.T) {
	if !Same(Shelf{}, roomFor(t, 1)) || !Same(roomFor(t, 4096), roomFor(t, 1)) {
		t.Error("empty ones")
	}
	if !Same(holding(t, 1, "a"), holding(t, 9, "a")) {
		t.Error("room counts")
	}
	keys := []string{"a", "b", "c", "d", "e", "f", "g"}
	rising, falling := roomFor(t, 7), roomFor(t, 8)
	for i := range keys {
		rising = set(t, rising, keys[i], sum(i))
		falling = set(t, falling, keys[6-i], sum(6-i))
	}
	if !Same(rising, falling) {
		t.Error("the order in which they came counts")
	}
	falling, _ = falling.Cut("d")
	if Same(rising, falling) || Same(falling, rising) {
		t.Error("one less")
	}
	if falling = set(t, falling, "d", sum(3)); !Same(rising, falling) {
		t.Error("one that went and came again")
	}
}

// P9.4

// steps: how many nodes Get passes at most, counted by hand; and that what a node says holds.
func steps(t *testing.T, n *node) int {
	t.Helper()
	if n == nil {
		return 0
	}
	left, right := steps(t, n.left), steps(t, n.right)
	if n.size != n.left.count()+n.right.count()+1 || n.high != max(left, right)+1 {
		t.Fatalf("at %q: size %d, high %d", n.key, n.size, n.high)
	}
	if left > right+1 || right > left+1 {
		t.Fatalf("at %q: %d high on its left, %d on its right", n.key, left, right)
	}
	return max(left, right) + 1
}

// digits: how many binary digits a number has, of 0 none.
func digits(n int) int {
	d := 0
	for ; n > 0; n /= 2 {
		d++
	}
	return d
}

// highFits: that High is what Get takes, and not too much.
func highFits(t *testing.T, s Shelf) {
	t.Helper()
	if high := s.High(); high > 3*digits(s.Len()) || high < digits(s.Len()) {
		t.Fatalf("%d records, %d high", s.Len(), high)
	}
}

// wideKeys: that many keys that rise.
func wideKeys(n int) []string {
	var keys []string
	for i := range n {
		keys = append(keys, string([]byte{byte(i >> 8), byte(i)}))
	}
	return keys
}

// orders: keys rising, falling, from both ends in turn, and mixed.
func orders(keys []string) map[string][]string {
	falling := slices.Clone(keys)
	slices.Reverse(falling)
	var ends []string
	for i := range len(keys) / 2 {
		ends = append(ends, keys[i], keys[len(keys)-1-i])
	}
	if len(keys)%2 == 1 {
		ends = append(ends, keys[len(keys)/2])
	}
	mid := slices.Clone(ends)
	slices.Reverse(mid)
	mixed := slices.Clone(keys)
	chance := chances()
	for i := range mixed {
		j := chance(i + 1)
		mixed[i], mixed[j] = mixed[j], mixed[i]
	}
	return map[string][]string{"rising": keys, "falling": falling, "ends": ends, "mid": mid, "mixed": mixed}
}

// chances: a row of numbers that is the same in each run.
func chances() func(n int) int {
	state := uint64(88172645463325252)
	return func(n int) int {
		state ^= state << 13
		state ^= state >> 7
		state ^= state << 17
		return int(state % uint64(n))
	}
}

func TestHigh(t *testing.T) {
	if s := roomFor(t, 5); s.High() != 0 {
		t.Error("of none", s.High())
	}
	if s := holding(t, 5, "a"); s.High() != 1 {
		t.Error("of one", s.High())
	}
	for _, n := range []int{2, 3, 4, 7, 8, 100, 4096} {
		all := orders(wideKeys(n))
		for come, coming := range all {
			s := roomFor(t, 4096)
			for i, key := range coming {
				s = set(t, s, key, sum(i))
				highFits(t, s)
				if i < 100 {
					steps(t, s.root)
				}
			}
			if s.High() != steps(t, s.root) || s.Len() != n {
				t.Fatalf("%s: %d, high %d", come, s.Len(), s.High())
			}
			for leave, going := range all {
				if n == 4096 && leave != "mixed" && come != "mixed" {
					continue
				}
				goAway(t, s, come+", "+leave, going)
			}
		}
	}
}

// goAway: cuts all keys in an order.
func goAway(t *testing.T, s Shelf, name string, keys []string) {
	t.Helper()
	for i, key := range keys {
		end, ok := s.Cut(key)
		if !ok || end.Len() != len(keys)-i-1 {
			t.Fatalf("%s: Cut of %q: %v, %d", name, key, ok, end.Len())
		}
		s = end
		highFits(t, s)
		if (i%97 == 0 || s.Len() < 100) && s.High() != steps(t, s.root) {
			t.Fatalf("%s: High %d", name, s.High())
		}
	}
	if s.Len() != 0 || s.High() != 0 {
		t.Fatalf("%s: %d left, high %d", name, s.Len(), s.High())
	}
}

// P2

// TestKeptShelvesStay: shelves that were kept while others were made of them.
func TestKeptShelvesStay(t *testing.T) {
	chance := chances()
	for _, span := range []int{6, 40, 300} {
		const room = 30
		shelves := []Shelf{roomFor(t, room)}
		listings := []listing{{}}
		for step := range 1500 {
			// Mostly the last one goes on, so that shelves grow; at times an older one does.
			from := len(shelves) - 1
			if chance(8) == 0 {
				from = chance(len(shelves))
			}
			s, l := shelves[from], listings[from].clone()
			key := string([]byte{'k', byte(chance(span) / 16), byte(chance(span) % 16)})
			_, there := l[key]
			if chance(3) == 0 {
				end, ok := s.Cut(key)
				if ok != there {
					t.Fatalf("Cut of %q: %v", key, ok)
				}
				s = end
				delete(l, key)
			} else {
				end, e := s.Set(key, sum(step))
				if full := !there && len(l) >= room; full != (e == api.ErrFull) || !full && e != api.OK {
					t.Fatalf("Set of %q: %v", key, e)
				}
				s = end
				if e == api.OK {
					l[key] = sum(step)
				}
			}
			shelves = append(shelves, s)
			listings = append(listings, l)
		}
		for i, s := range shelves {
			expect(t, s, room, listings[i])
			highFits(t, s)
			steps(t, s.root)
		}
		for range 400 {
			i, j := chance(len(shelves)), chance(len(shelves))
			if Same(shelves[i], shelves[j]) != sameListing(listings[i], listings[j]) {
				t.Fatalf("Same of %d and %d", i, j)
			}
		}
		keysAsListed(t, shelves, listings, chance)
	}
}

func sameListing(a, b listing) bool {
	return slices.Equal(a.keys(), b.keys()) && !slices.ContainsFunc(a.keys(), func(key string) bool { return !exact(a[key], b[key]) })
}

// keysAsListed: that Keys are those of the listing, gone through one by one.
func keysAsListed(t *testing.T, shelves []Shelf, listings []listing, chance func(int) int) {
	t.Helper()
	bound := func() string { return string([]byte{'k', byte(chance(20)), byte(chance(20))})[:chance(4)] }
	for range 2000 {
		i, from, to, most := chance(len(shelves)), bound(), bound(), chance(12)-2
		var want []string
		for _, key := range listings[i].keys() {
			if key >= from && key < to && len(want) < most {
				want = append(want, key)
			}
		}
		if got := shelves[i].Keys(from, to, most); !slices.Equal(got, want) {
			t.Fatalf("Keys %q, %q, %d: %q, not %q", from, to, most, got, want)
		}
	}
}

// spoil: changes all of a list, its spare room too.
func spoil(l []api.Item) {
	l = l[:cap(l)]
	for i := range l {
		l[i] = api.Item{Score: -99, Name: "spoilt"}
	}
}

// roomy: a record's clone whose list has spare room, and that room.
func roomy(r api.Record) (api.Record, []api.Item) {
	all := append(slices.Clone(r.List), make([]api.Item, 4)...)
	for i := len(r.List); i < len(all); i++ {
		all[i] = api.Item{Score: -77, Name: "spare"}
	}
	r.List = all[:len(r.List)]
	return r, all
}

func TestRecordsAreNotShared(t *testing.T) {
	given, room := roomy(named("a", "b"))
	want := slices.Clone(room)
	s := set(t, holding(t, 3, "x"), "k", given)
	if !slices.Equal(room, want) {
		t.Error("Set changed its record", room)
	}
	spoil(given.List)
	expect(t, s, 3, listing{"k": named("a", "b"), "x": sum(0)})
	got, _ := s.Get("k")
	other, _ := s.Get("k")
	_, at, _ := s.At(0)
	spoil(got.List)
	if !exact(other, named("a", "b")) || !exact(at, named("a", "b")) {
		t.Error("answers share a list")
	}
	spoil(at.List)
	if !exact(other, named("a", "b")) {
		t.Error("answers share a list")
	}
	expect(t, s, 3, listing{"k": named("a", "b"), "x": sum(0)})
	end := set(t, s, "k", named("c"))
	spoil(other.List)
	expect(t, s, 3, listing{"k": named("a", "b"), "x": sum(0)})
	expect(t, end, 3, listing{"k": named("c"), "x": sum(0)})
}

func TestKeysAreNewMemory(t *testing.T) {
	s := holding(t, 9, "a", "b", "c")
	got, other := s.Keys("", "z", 9), s.Keys("", "z", 9)
	for i := range got[:cap(got)] {
		got[:cap(got)][i] = "spoilt"
	}
	if want := []string{"a", "b", "c"}; !slices.Equal(other, want) || !slices.Equal(s.Keys("", "z", 9), want) {
		t.Error("Keys share a list")
	}
}
