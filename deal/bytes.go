package deal

import (
	"moiety/act"
	"moiety/api"
	"moiety/pack"
)

// Write: a deal that may be, behind what was written.
func Write(w *pack.Writer, d api.Deal) {
	w.U(uint64(len(d.Acts)))
	for _, a := range d.Acts {
		act.Write(w, a)
	}
}

// Take: the deal that comes next; a Fault is thrown, if there is none.
func Take(r *pack.Reader) api.Deal {
	n := r.Upto(MaxActs)
	if n == 0 {
		r.Fail(api.ErrRange)
	}
	var d api.Deal
	for range n {
		d.Acts = append(d.Acts, act.Take(r))
	}
	return d
}

// Bytes: a deal as bytes; none of one that may not be.
func Bytes(d api.Deal) []byte {
	if e, _ := Check(d); e != api.OK {
		return nil
	}
	var w pack.Writer
	Write(&w, d)
	return w.Bytes()
}

// Read: the deal that bytes are.
func Read(b []byte) (out api.Deal, fault pack.Fault) {
	defer func() { fault = pack.Caught(recover()) }()
	r := pack.New(b)
	read := Take(r)
	r.End()
	// Only here is out set, so that beside a Fault there is no deal.
	return read, pack.Fault{}
}
