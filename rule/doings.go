package rule

import (
	"slices"

	"moiety/act"
	"moiety/api"
	"moiety/flo"
	"moiety/rec"
)

// doing is what a kind of acts does, if nothing forbids it ahead: what is there behind it (the zero record: none is), and its answer. The record handed in is in memory of its own, so that its list may be changed on the spot, unless the act is refused.
type doing func(r api.Record, a api.Act) (api.Record, api.Answer)

// doings: what each kind of acts does.
func doings() [act.Kinds]doing {
	return [act.Kinds]doing{
		act.New:    change(create),
		act.Drop:   change(drop),
		act.Is:     tellKind,
		act.Look:   look,
		act.Put:    change(put),
		act.Swap:   swap,
		act.Add:    change(add),
		act.Plus:   change(plus),
		act.Reach:  test(reaches),
		act.In:     change(in),
		act.Out:    change(out),
		act.Enough: test(reaches),
		act.Raise:  change(onReal(flo.Max)),
		act.Lower:  change(onReal(flo.Min)),
		act.Shift:  change(onReal(flo.Plus)),
		act.Scale:  change(onReal(flo.Times)),
		act.Fix:    change(onReal(latter)),
		act.Join:   change(join),
		act.Leave:  change(leave),
		act.Has:    test(has),
		act.Offer:  change(offer),
	}
}

// changing is what is there behind an act, or why it is refused.
type changing func(r api.Record, a api.Act) (api.Record, api.Errno)

// change: a doing that changes a record, and tells nothing; of one that is refused all is as it was.
func change(f changing) doing {
	return func(r api.Record, a api.Act) (api.Record, api.Answer) {
		is, e := f(r, a)
		if e != api.OK {
			return r, api.Answer{Code: e}
		}
		return is, api.Answer{}
	}
}

// test: a doing that changes nothing, and is refused, if something doesn't hold.
func test(holds func(r api.Record, a api.Act) bool) doing {
	return func(r api.Record, a api.Act) (api.Record, api.Answer) {
		if !holds(r, a) {
			return r, api.Answer{Code: api.ErrNot}
		}
		return r, api.Answer{}
	}
}

// onReal: a changing that works a new Real out of the old one and X.
func onReal(f func(old, x float64) float64) changing {
	return func(r api.Record, a api.Act) (api.Record, api.Errno) {
		r.Real = f(r.Real, a.X)
		return r, api.OK
	}
}

func latter(_, x float64) float64 { return x }

func create(_ api.Record, a api.Act) (api.Record, api.Errno) { return rec.Clone(a.Make), api.OK }

func drop(api.Record, api.Act) (api.Record, api.Errno) { return api.Record{}, api.OK }

func tellKind(r api.Record, _ api.Act) (api.Record, api.Answer) {
	return r, api.Answer{Num: int64(r.Kind)}
}

func look(r api.Record, _ api.Act) (api.Record, api.Answer) {
	// Cloned, as the record and the answer may share no list.
	return r, api.Answer{Rec: rec.Clone(r)}
}

func put(r api.Record, a api.Act) (api.Record, api.Errno) {
	r.Text = a.S
	return r, api.OK
}

func swap(r api.Record, a api.Act) (api.Record, api.Answer) {
	was := rec.Clone(r)
	r.Text = a.S
	return r, api.Answer{Rec: was}
}

func add(r api.Record, a api.Act) (api.Record, api.Errno) {
	r.Num += a.N
	return r, api.OK
}

func plus(r api.Record, a api.Act) (api.Record, api.Errno) {
	sum := r.Num + a.N
	// A sum that went round is on the wrong side of what it was added to.
	if (sum < r.Num) != (a.N < 0) {
		return r, api.ErrOver
	}
	r.Num = sum
	return r, api.OK
}

func reaches(r api.Record, a api.Act) bool { return r.Num >= a.N }

// in: amounts and purses are so bounded that their sums don't go round; nor do they in out.
func in(r api.Record, a api.Act) (api.Record, api.Errno) {
	if r.Num+a.N > r.High {
		return r, api.ErrOver
	}
	r.Num += a.N
	return r, api.OK
}

func out(r api.Record, a api.Act) (api.Record, api.Errno) {
	if r.Num-a.N < r.Low {
		return r, api.ErrLow
	}
	r.Num -= a.N
	return r, api.OK
}

// find: where an item stands in a list, or would, and whether it does. A Set's Scores are all alike, so that Better is its order too.
func find(list []api.Item, item api.Item) (int, bool) {
	at := 0
	for at < len(list) && rec.Better(list[at], item) {
		at++
	}
	return at, at < len(list) && !rec.Better(item, list[at])
}

func join(r api.Record, a api.Act) (api.Record, api.Errno) {
	item := api.Item{Name: a.S}
	at, already := find(r.List, item)
	if already {
		return r, api.OK
	}
	if len(r.List) >= r.Cap {
		return r, api.ErrFull
	}
	r.List = slices.Insert(r.List, at, item)
	return r, api.OK
}

func leave(r api.Record, a api.Act) (api.Record, api.Errno) {
	if at, there := find(r.List, api.Item{Name: a.S}); there {
		r.List = slices.Delete(r.List, at, at+1)
	}
	return r, api.OK
}

func has(r api.Record, a api.Act) bool {
	_, there := find(r.List, api.Item{Name: a.S})
	return there
}

func offer(r api.Record, a api.Act) (api.Record, api.Errno) {
	item := api.Item{Score: a.X, Name: a.S}
	at, already := find(r.List, item)
	if already {
		return r, api.OK
	}
	r.List = slices.Insert(r.List, at, item)
	if len(r.List) > r.Cap {
		r.List = r.List[:r.Cap]
	}
	return r, api.OK
}
