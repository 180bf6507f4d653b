package pair

import (
	"testing"

	"moiety/act"
	"moiety/api"
	"moiety/rec"
	"moiety/rule"
)

func isZero(c Case) bool {
	return rec.Same(c.Rec, api.Record{}) && !c.There && act.Same(c.A, api.Act{}) && act.Same(c.B, api.Act{})
}

// P6.5

// TestSharp: each two kinds that don't change places have a case, in which all may be, upon one key, and it matters.
func TestSharp(t *testing.T) {
	for k := 1; k < act.Kinds; k++ {
		for l := 1; l < act.Kinds; l++ {
			c, ok := Witness(k, l)
			if ok == inGrid(k, l) {
				t.Errorf("%s and %s: %v", act.Name(k), act.Name(l), ok)
			}
			if !ok {
				if !isZero(c) {
					t.Errorf("%s and %s: %+v", act.Name(k), act.Name(l), c)
				}
				continue
			}
			mayBe(t, c, k, l)
			if !matters(c) {
				t.Errorf("%s and %s: it doesn't matter in %+v", act.Name(k), act.Name(l), c)
			}
		}
	}
}

func mayBe(t *testing.T, c Case, k, l int) {
	t.Helper()
	if c.A.Kind != k || c.B.Kind != l || c.A.Key != c.B.Key {
		t.Errorf("%s and %s: %+v, %+v", act.Name(k), act.Name(l), c.A, c.B)
	}
	if act.Check(c.A) != api.OK || act.Check(c.B) != api.OK {
		t.Errorf("acts that may not be: %+v, %+v", c.A, c.B)
	}
	if c.There && rec.Check(c.Rec) != api.OK || !c.There && !rec.Same(c.Rec, api.Record{}) {
		t.Errorf("a record that may not be: %+v, %v", c.Rec, c.There)
	}
}

// matters tells it by Apply alone, without Differs, by which the case was found.
func matters(c Case) bool {
	r, there, a := rule.Apply(c.Rec, c.There, c.A)
	r, there, b := rule.Apply(r, there, c.B)
	s, thereToo, d := rule.Apply(c.Rec, c.There, c.B)
	s, thereToo, e := rule.Apply(s, thereToo, c.A)
	return there != thereToo || !rec.Same(r, s) || !rule.Same(a, e) || !rule.Same(b, d)
}

func TestNoWitnessOfNoKinds(t *testing.T) {
	for _, k := range noKinds {
		for l := range act.Kinds {
			if c, ok := Witness(k, l); ok || !isZero(c) {
				t.Errorf("%d and %d: %+v", k, l, c)
			}
			if c, ok := Witness(l, k); ok || !isZero(c) {
				t.Errorf("%d and %d: %+v", l, k, c)
			}
		}
	}
}

// TestWitnessIsTheSameEachTime, whatever is done to one that was told (P2).
func TestWitnessIsTheSameEachTime(t *testing.T) {
	for k := range act.Kinds {
		for l := range act.Kinds {
			c, ok := Witness(k, l)
			kept := rec.Clone(c.Rec)
			for _, list := range [][]api.Item{c.Rec.List, c.A.Make.List, c.B.Make.List} {
				list = list[:cap(list)]
				for i := range list {
					list[i] = api.Item{Score: -9, Name: "spoilt"}
				}
			}
			d, again := Witness(k, l)
			if ok != again || c.There != d.There || !rec.Same(kept, d.Rec) || !act.Same(c.A, d.A) || !act.Same(c.B, d.B) {
				t.Errorf("%d and %d: %+v, %+v", k, l, c, d)
			}
		}
	}
}
