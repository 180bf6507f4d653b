package rec

import (
	"moiety/api"
	"moiety/pack"
)

// Put: a record that may be, behind what was written.
func Put(w *pack.Writer, r api.Record) {
	w.U(uint64(r.Kind))
	switch r.Kind {
	case Text:
		w.S(r.Text)
	case Sum, Count:
		w.I(r.Num)
	case Purse:
		w.I(r.Low)
		w.I(r.High)
		w.I(r.Num)
	case Peak, Dip, Level:
		w.F(r.Real)
	case Set, Top:
		putList(w, r)
	}
}

func putList(w *pack.Writer, r api.Record) {
	w.U(uint64(r.Cap))
	w.U(uint64(len(r.List)))
	for _, item := range r.List {
		if r.Kind == Top {
			w.F(item.Score)
		}
		w.S(item.Name)
	}
}

// Take: the record that comes next; a Fault is thrown, if there is none.
func Take(r *pack.Reader) api.Record {
	out := api.Record{Kind: takeKind(r)}
	switch out.Kind {
	case Text:
		out.Text = r.S(MaxText)
	case Sum, Count:
		out.Num = r.I()
	case Purse:
		out.Low = r.I()
		out.High = r.I()
		out.Num = r.I()
	case Peak, Dip, Level:
		out.Real = r.F()
	case Set, Top:
		out.Cap = r.Upto(MaxCap)
		out.List = takeItems(r, out.Kind)
	}
	if e := Check(out); e != api.OK {
		r.Fail(e)
	}
	return out
}

func takeKind(r *pack.Reader) int {
	k := r.Upto(Kinds - 1)
	if k == None {
		r.Fail(api.ErrKind)
	}
	return k
}

func takeItems(r *pack.Reader, kind int) []api.Item {
	// Held against MaxCap alone: that there are more than the record's own Cap is told behind all of them.
	n := r.Upto(MaxCap)
	var list []api.Item
	for range n {
		list = append(list, takeItem(r, kind))
	}
	return list
}

func takeItem(r *pack.Reader, kind int) api.Item {
	var item api.Item
	if kind == Top {
		item.Score = r.F()
	}
	item.Name = r.S(MaxName)
	return item
}

// Bytes: a record as bytes; none of one that may not be.
func Bytes(r api.Record) []byte {
	if Check(r) != api.OK {
		return nil
	}
	var w pack.Writer
	Put(&w, r)
	return w.Bytes()
}

// Read: the record that bytes are.
func Read(b []byte) (out api.Record, fault pack.Fault) {
	defer func() { fault = pack.Caught(recover()) }()
	r := pack.New(b)
	read := Take(r)
	r.End()
	// Only here is out set, so that beside a Fault there is no record.
	return read, pack.Fault{}
}
