package line

import (
	"math"
	"slices"
	"testing"

	"moiety/act"
	"moiety/api"
	"moiety/deal"
	"moiety/rec"
)

func of(l ...api.Act) api.Deal { return api.Deal{Acts: l} }

func add(key string) api.Act  { return api.Act{Kind: act.Add, Key: key, N: 1} }
func look(key string) api.Act { return api.Act{Kind: act.Look, Key: key} }
func is(key string) api.Act   { return api.Act{Kind: act.Is, Key: key} }
func drop(key string) api.Act { return api.Act{Kind: act.Drop, Key: key} }
func create(key string) api.Act {
	return api.Act{Kind: act.New, Key: key, Make: api.Record{Kind: rec.Sum}}
}

// upTo: the numbers from 0 on, below n.
func upTo(n int) []int {
	var l []int
	for i := range n {
		l = append(l, i)
	}
	return l
}

// stands: that just these deals of n are to be done yet, and for whom each one waits.
func stands(t *testing.T, name string, x *Line, n int, waits map[int][]int) {
	t.Helper()
	if x.Left() != len(waits) {
		t.Errorf("%s: %d are left, not %d", name, x.Left(), len(waits))
	}
	for _, i := range append([]int{math.MinInt, -n, -2, -1, n, n + 1, math.MaxInt}, upTo(n)...) {
		want, todo := waits[i]
		if got := x.After(i); !slices.Equal(got, want) {
			t.Errorf("%s: %d waits for %v, not %v", name, i, got, want)
		}
		if ready := todo && len(want) == 0; x.Ready(i) != ready {
			t.Errorf("%s: %d is Ready: %v, not %v", name, i, x.Ready(i), ready)
		}
	}
}

// do: that each of these is, or isn't, done now.
func do(t *testing.T, x *Line, want bool, l ...int) {
	t.Helper()
	for _, i := range l {
		if x.Done(i) != want {
			t.Errorf("Done(%d) isn't %v", i, want)
		}
	}
}

func TestTheDocumentsExample(t *testing.T) {
	l := []api.Deal{of(add("a")), of(add("a"))}
	x := New(l, []int{0, 1}, nil)
	stands(t, "waits", x, 2, map[int][]int{0: nil, 1: {0}})
	do(t, x, true, 0, 1)
	x = New(l, []int{0, 1}, []string{"a"})
	stands(t, "split", x, 2, map[int][]int{0: nil, 1: nil})
	do(t, x, true, 1, 0)
}

// P14.1

func TestWhichAreToBeDone(t *testing.T) {
	l := slices.Repeat([]api.Deal{of(add("a"))}, 5)
	stands(t, "all", New(l, upTo(5), nil), 5, map[int][]int{0: nil, 1: {0}, 2: {0, 1}, 3: {0, 1, 2}, 4: {0, 1, 2, 3}})
	stands(t, "some", New(l, []int{1, 2, 4}, nil), 5, map[int][]int{1: nil, 2: {1}, 4: {1, 2}})
	stands(t, "the last", New(l, []int{4}, nil), 5, map[int][]int{4: nil})
	stands(t, "none", New(l, nil, nil), 5, nil)
	stands(t, "none, an empty list", New(l, []int{}, []string{}), 5, nil)
	stands(t, "no deals", New(nil, nil, []string{"a"}), 5, nil)
}

func TestLeft(t *testing.T) {
	x := New(slices.Repeat([]api.Deal{of(add("a"))}, 32), upTo(32), nil)
	for i := range 32 {
		if x.Left() != 32-i {
			t.Errorf("%d are left, not %d", x.Left(), 32-i)
		}
		do(t, x, true, i)
	}
	if x.Left() != 0 {
		t.Error(x.Left(), "are left")
	}
}

// P14.2

func TestWhoMeetsWhom(t *testing.T) {
	l := []api.Deal{
		of(look("a"), look("b")),
		of(add("c"), is("a")),
		of(add("b")),
		of(create("x")),
		of(look("x"), look("c")),
		of(drop("y"), add("z")),
		of(add("c"), add("b"), add("a")),
		of(look("q")),
	}
	waits := map[int][]int{0: nil, 1: nil, 2: {0}, 3: nil, 4: {1, 3}, 5: {3}, 6: {0, 1, 2, 4}, 7: nil}
	stands(t, "nothing split", New(l, upTo(8), nil), 8, waits)
	// New and Drop meet, whatever is split; else split keys are in nobody's way.
	waits = map[int][]int{0: nil, 1: nil, 2: {0}, 3: nil, 4: nil, 5: {3}, 6: {0, 1, 2}, 7: nil}
	stands(t, "c and x are split", New(l, upTo(8), []string{"c", "x", "y"}), 8, waits)
	waits = map[int][]int{0: nil, 1: nil, 2: nil, 3: nil, 4: {3}, 5: {3}, 6: nil, 7: nil}
	stands(t, "a, b and c are split", New(l, upTo(8), []string{"a", "b", "c"}), 8, waits)
	stands(t, "keys of no deal", New(l, []int{2, 6}, []string{"", "B", "bb"}), 8, map[int][]int{2: nil, 6: {2}})
}

// TestOnlyKeysOfBothCount: a split key that only one of two names changes nothing.
func TestOnlyKeysOfBothCount(t *testing.T) {
	l := []api.Deal{of(add("a"), add("b")), of(add("b")), of(add("a")), of(add("b"), add("a"))}
	stands(t, "a", New(l, upTo(4), []string{"a"}), 4, map[int][]int{0: nil, 1: {0}, 2: nil, 3: {0, 1}})
	stands(t, "b", New(l, upTo(4), []string{"b"}), 4, map[int][]int{0: nil, 1: nil, 2: {0}, 3: {0, 2}})
	stands(t, "both", New(l, upTo(4), []string{"a", "b"}), 4, map[int][]int{0: nil, 1: nil, 2: nil, 3: nil})
}

func TestReadersAllAtOnce(t *testing.T) {
	x := New([]api.Deal{of(look("a")), of(look("a")), of(add("a")), of(look("a"))}, upTo(4), nil)
	stands(t, "at first", x, 4, map[int][]int{0: nil, 1: nil, 2: {0, 1}, 3: {2}})
	do(t, x, true, 1)
	stands(t, "behind 1", x, 4, map[int][]int{0: nil, 2: {0}, 3: {2}})
	do(t, x, true, 0)
	stands(t, "behind 0", x, 4, map[int][]int{2: nil, 3: {2}})
	do(t, x, true, 2)
	stands(t, "behind 2", x, 4, map[int][]int{3: nil})
	do(t, x, true, 3)
	stands(t, "behind all", x, 4, nil)
}

func TestDoneOfOthers(t *testing.T) {
	x := New([]api.Deal{of(add("a")), of(add("a")), of(add("b")), of(add("a"))}, []int{0, 1, 3}, nil)
	waits := map[int][]int{0: nil, 1: {0}, 3: {0, 1}}
	do(t, x, false, 1, 3, 2, 4, 5, -1, math.MinInt, math.MaxInt)
	stands(t, "nothing was done", x, 4, waits)
	do(t, x, true, 0)
	waits = map[int][]int{1: nil, 3: {1}}
	do(t, x, false, 0, 3, 2)
	stands(t, "one was done", x, 4, waits)
	do(t, x, true, 1, 3)
	do(t, x, false, 0, 1, 2, 3)
	stands(t, "all were done", x, 4, nil)
}

// Many lines

// chances: numbers that look like chance, and are the same each time.
func chances(seed uint64) func(int) int {
	return func(n int) int {
		seed ^= seed << 13
		seed ^= seed >> 7
		seed ^= seed << 17
		return int(seed % uint64(n))
	}
}

func someDeals(next func(int) int, n int) []api.Deal {
	var l []api.Deal
	for range n {
		var d api.Deal
		for range next(4) {
			key := string(rune('a' + next(6)))
			d.Acts = append(d.Acts, []func(string) api.Act{add, add, look, look, is, create, drop}[next(7)](key))
		}
		l = append(l, d)
	}
	return l
}

// waiting: for whom each of some deals waits, told once more.
func waiting(l []api.Deal, todo []int, split []string) map[int][]int {
	waits := map[int][]int{}
	for _, i := range todo {
		waits[i] = nil
		for _, j := range todo {
			if j < i && deal.Meet(l[i], l[j], split...) {
				waits[i] = append(waits[i], j)
			}
		}
	}
	return waits
}

// TestManyLines: done in any order that Ready allows; P14.3 too.
func TestManyLines(t *testing.T) {
	next := chances(88172645463325252)
	for range 1000 {
		l := someDeals(next, next(13))
		todo := slices.DeleteFunc(upTo(len(l)), func(int) bool { return next(4) == 0 })
		var split []string
		for range next(4) {
			split = append(split, string(rune('a'+next(6))))
		}
		x := New(l, todo, split)
		for len(todo) > 0 {
			stands(t, "on the way", x, len(l), waiting(l, todo, split))
			freeAndApart(t, x, l, todo, split)
			i := next(len(l)+2) - 1
			ready := slices.Contains(todo, i) && len(waiting(l, todo, split)[i]) == 0
			do(t, x, ready, i)
			if ready {
				todo = slices.DeleteFunc(todo, func(j int) bool { return i == j })
			}
		}
		stands(t, "all done", x, len(l), nil)
	}
}

// P14.3

func freeAndApart(t *testing.T, x *Line, l []api.Deal, todo []int, split []string) {
	t.Helper()
	if !x.Ready(todo[0]) {
		t.Errorf("the first of %v isn't Ready: %+v, %q", todo, l, split)
	}
	for _, i := range todo {
		for _, j := range todo {
			if i != j && x.Ready(i) && x.Ready(j) && deal.Meet(l[i], l[j], split...) {
				t.Errorf("%d and %d meet: %+v, %q", i, j, l, split)
			}
		}
	}
}

// TestTheFirstIsFree: always by the first one, all are done in their order.
func TestTheFirstIsFree(t *testing.T) {
	next := chances(777)
	for range 100 {
		l := someDeals(next, 32)
		x := New(l, upTo(32), []string{"a"})
		do(t, x, true, upTo(32)...)
		stands(t, "all done", x, 32, nil)
	}
}

// P1

func TestRawArguments(t *testing.T) {
	odd := []api.Deal{{}, of(api.Act{}), of(add(""), api.Act{Kind: math.MinInt, Key: "a"}), of(api.Act{Kind: math.MaxInt, Key: "a"}, create("a"))}
	for _, l := range [][]api.Deal{nil, odd, slices.Repeat(odd, 20)} {
		for _, todo := range [][]int{{-1}, {math.MinInt, math.MaxInt}, {3, 2, 1, 0}, {2, 2, 2}, {0, 4, 99, -7, 3}, upTo(200)} {
			x := New(l, todo, []string{"", "a", "a"})
			for range 3 {
				for _, i := range append([]int{math.MinInt, -1, 200, math.MaxInt}, upTo(90)...) {
					x.After(i)
					x.Ready(i)
					x.Done(i)
				}
			}
			x.Left()
		}
	}
}

// P2

func TestArgumentsAreLeftAndNotKept(t *testing.T) {
	acts := []api.Act{add("a"), add("b"), look("spare")}
	l := []api.Deal{{Acts: acts[:1]}, {Acts: acts[:2]}, of(add("c")), of(add("b")), of(drop("spare"))}
	todo := []int{0, 1, 2, 3, 9}
	split := []string{"b", "x", "spare"}
	x := New(l[:4], todo[:4], split[:2])
	waits := map[int][]int{0: nil, 1: {0}, 2: nil, 3: nil}
	stands(t, "at first", x, 4, waits)
	if acts[0].Key != "a" || acts[2].Key != "spare" || len(l[0].Acts) != 1 || l[4].Acts[0].Key != "spare" ||
		!slices.Equal(todo, []int{0, 1, 2, 3, 9}) || !slices.Equal(split, []string{"b", "x", "spare"}) {
		t.Error("changed")
	}
	acts[0].Key = "c"
	clear(l)
	clear(todo)
	clear(split)
	stands(t, "kept", x, 4, waits)
	do(t, x, true, 3, 0, 1, 2)
}

func TestAfterIsNewMemory(t *testing.T) {
	x := New(slices.Repeat([]api.Deal{of(add("a"))}, 4), upTo(4), nil)
	one, two := x.After(3), x.After(3)
	clear(one[:cap(one)])
	if !slices.Equal(two, []int{0, 1, 2}) {
		t.Error("two answers share memory", two)
	}
	stands(t, "kept", x, 4, map[int][]int{0: nil, 1: {0}, 2: {0, 1}, 3: {0, 1, 2}})
	do(t, x, true, 0)
	if !slices.Equal(two, []int{0, 1, 2}) {
		t.Error("an answer goes on", two)
	}
}

// TestLinesAreApart: what is done in one of them isn't in another one.
func TestLinesAreApart(t *testing.T) {
	l := slices.Repeat([]api.Deal{of(add("a"))}, 3)
	x, y := New(l, upTo(3), nil), New(l, upTo(3), nil)
	do(t, x, true, 0, 1)
	stands(t, "the other one", y, 3, map[int][]int{0: nil, 1: {0}, 2: {0, 1}})
	stands(t, "this one", x, 3, map[int][]int{2: nil})
}
