package pair

import (
	"math"

	"moiety/act"
	"moiety/api"
	"moiety/rec"
)

// Case is a record, or none, and two acts upon one key.
type Case struct {
	Rec   api.Record
	There bool
	A, B  api.Act
}

// Witness: a case in which it matters which of two kinds of acts is first; false: there is none.
func Witness(k, l int) (Case, bool) {
	if !known(k) || !known(l) || Kinds(k, l) {
		return Case{}, false
	}
	for _, g := range grounds(k, l) {
		for _, a := range acts(k) {
			for _, b := range acts(l) {
				if Differs(g.Rec, g.There, a, b) {
					return Case{Rec: g.Rec, There: g.There, A: a, B: b}, true
				}
			}
		}
	}
	// There is one for each pair of kinds that comes here.
	return Case{}, false
}

// grounds: cases without acts, one of which is enough for two kinds: none, which a New needs, and records for the kinds.
func grounds(k, l int) []Case {
	cases := []Case{{}}
	// What is for any record is 0; else both are for the same kind.
	for _, r := range records(max(act.On(k), act.On(l))) {
		cases = append(cases, Case{Rec: r, There: true})
	}
	return cases
}

// records: some of a kind at the edges, where it matters what is first.
func records(kind int) []api.Record {
	switch kind {
	case rec.Count:
		return []api.Record{{Kind: rec.Count, Num: math.MaxInt64}}
	case rec.Purse:
		return []api.Record{{Kind: rec.Purse, High: 1}, {Kind: rec.Purse, High: 1, Num: 1}}
	case rec.Level:
		return []api.Record{{Kind: rec.Level, Real: math.MaxFloat64}}
	case rec.Set:
		return []api.Record{{Kind: rec.Set, Cap: 1}, {Kind: rec.Set, Cap: 1, List: []api.Item{{Name: "a"}}}}
	case rec.Top:
		return []api.Record{{Kind: rec.Top, Cap: 1}}
	case rec.None:
		return []api.Record{{Kind: rec.Text}}
	}
	return []api.Record{{Kind: kind}}
}

// acts: some of a kind, upon one key, that change those records, and hinder each other.
func acts(k int) []api.Act {
	l := bare(k)
	for i := range l {
		l[i].Kind, l[i].Key = k, "a"
	}
	return l
}

// bare: acts of a kind, without kind and key.
func bare(k int) []api.Act {
	switch k {
	case act.New:
		return []api.Act{{Make: api.Record{Kind: rec.Text}}}
	case act.Put, act.Swap, act.Join:
		return []api.Act{{S: "a"}, {S: "b"}}
	case act.Leave, act.Has:
		return []api.Act{{S: "a"}}
	case act.Plus:
		return []api.Act{{N: 1}, {N: -1}}
	case act.Reach:
		return []api.Act{{N: math.MaxInt64}}
	case act.Add, act.In, act.Out, act.Enough:
		return []api.Act{{N: 1}}
	case act.Raise:
		return []api.Act{{X: 1}}
	case act.Lower:
		return []api.Act{{X: -1}}
	case act.Shift:
		return []api.Act{{X: math.MaxFloat64}, {X: -math.MaxFloat64}}
	case act.Scale, act.Fix:
		return []api.Act{{X: 2}, {X: 0.5}}
	case act.Offer:
		return []api.Act{{X: 1, S: "a"}}
	}
	return []api.Act{{}}
}
