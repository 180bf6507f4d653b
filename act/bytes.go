package act

import (
	"moiety/api"
	"moiety/pack"
	"moiety/rec"
)

// Write: an act that may be, behind what was written.
func Write(w *pack.Writer, a api.Act) {
	w.U(uint64(a.Kind))
	w.Flag(a.Must)
	w.S(a.Key)
	if Field(a.Kind, 'n') {
		w.I(a.N)
	}
	if Field(a.Kind, 'x') {
		w.F(a.X)
	}
	if Field(a.Kind, 's') {
		w.S(a.S)
	}
	if Field(a.Kind, 'm') {
		rec.Put(w, a.Make)
	}
}

// Take: the act that comes next; a Fault is thrown, if there is none.
func Take(r *pack.Reader) api.Act {
	out := api.Act{Kind: takeKind(r)}
	out.Must = r.Flag()
	out.Key = r.S(MaxKey)
	takeFields(r, &out)
	if e := Check(out); e != api.OK {
		r.Fail(e)
	}
	return out
}

func takeKind(r *pack.Reader) int {
	k := r.Upto(Kinds - 1)
	if k == None {
		r.Fail(api.ErrKind)
	}
	return k
}

func takeFields(r *pack.Reader, a *api.Act) {
	if Field(a.Kind, 'n') {
		a.N = r.I()
	}
	if Field(a.Kind, 'x') {
		a.X = r.F()
	}
	if Field(a.Kind, 's') {
		a.S = r.S(mostOfS(a.Kind))
	}
	if Field(a.Kind, 'm') {
		a.Make = rec.Take(r)
	}
}

// Bytes: an act as bytes; none of one that may not be.
func Bytes(a api.Act) []byte {
	if Check(a) != api.OK {
		return nil
	}
	var w pack.Writer
	Write(&w, a)
	return w.Bytes()
}

// Read: the act that bytes are.
func Read(b []byte) (out api.Act, fault pack.Fault) {
	defer func() { fault = pack.Caught(recover()) }()
	r := pack.New(b)
	read := Take(r)
	r.End()
	// Only here is out set, so that beside a Fault there is no act.
	return read, pack.Fault{}
}
