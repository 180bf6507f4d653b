package lot

import (
	"moiety/api"
	"moiety/deal"
	"moiety/pack"
)

// written: a lot whose deals may be, as bytes, however many these are.
func written(l api.Lot) *pack.Writer {
	var w pack.Writer
	w.U(uint64(l.Number))
	w.U(uint64(len(l.Deals)))
	for _, d := range l.Deals {
		deal.Write(&w, d)
	}
	return &w
}

// Bytes: a lot as bytes; none of one that may not be.
func Bytes(l api.Lot) []byte {
	if e, _ := Check(l); e != api.OK {
		return nil
	}
	return written(l).Bytes()
}

// Read: the lot that bytes are.
func Read(b []byte) (out api.Lot, fault pack.Fault) {
	defer func() { fault = pack.Caught(recover()) }()
	r := pack.New(b)
	read := take(r)
	r.End()
	// Only here is out set, so that beside a Fault there is no lot.
	return read, pack.Fault{}
}

// take: the lot that comes next; a Fault is thrown, if there is none.
func take(r *pack.Reader) api.Lot {
	l := api.Lot{Number: r.Upto(MaxNumber)}
	if l.Number == 0 {
		r.Fail(api.ErrRange)
	}
	for range r.Upto(MaxDeals) {
		l.Deals = append(l.Deals, deal.Take(r))
	}
	if e, _ := Check(l); e != api.OK {
		r.Fail(e)
	}
	return l
}
