// Package pack writes and reads numbers and texts as bytes, each in one form alone.
package pack

import "moiety/api"

// Part is a number, a text, or a yes or no, by its kind: u, i, f, s or b.
type Part struct {
	Kind byte
	U    uint64
	I    int64
	F    float64
	S    string
	B    bool
}

// Write: parts as bytes; those of no kind are none.
func Write(parts ...Part) []byte {
	var w Writer
	for _, p := range parts {
		w.part(p)
	}
	return w.Bytes()
}

func (w *Writer) part(p Part) {
	switch p.Kind {
	case 'u':
		w.U(p.U)
	case 'i':
		w.I(p.I)
	case 'f':
		w.F(p.F)
	case 's':
		w.S(p.S)
	case 'b':
		w.Flag(p.B)
	}
}

// Read: the parts that bytes are, of these kinds, texts of at most so many bytes.
func Read(b []byte, kinds string, most int) (out []Part, fault Fault) {
	defer func() { fault = Caught(recover()) }()
	r := New(b)
	var parts []Part
	for i := range len(kinds) {
		parts = append(parts, r.part(kinds[i], most))
	}
	r.End()
	// Only here is out set, so that beside a Fault there are no parts.
	return parts, Fault{}
}

func (r *Reader) part(kind byte, most int) Part {
	p := Part{Kind: kind}
	switch kind {
	case 'u':
		p.U = r.U()
	case 'i':
		p.I = r.I()
	case 'f':
		p.F = r.F()
	case 's':
		p.S = r.S(most)
	case 'b':
		p.B = r.Flag()
	default:
		r.Fail(api.ErrKind)
	}
	return p
}

// Caught: what was thrown, if it was a Fault; what else was thrown is thrown on.
func Caught(thrown any) Fault {
	if thrown == nil {
		return Fault{}
	}
	return faultOf(thrown)
}

func faultOf(thrown any) Fault {
	f, ok := thrown.(Fault)
	if !ok {
		panic(thrown)
	}
	return f
}
