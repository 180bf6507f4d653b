package pack

import (
	"slices"

	"moiety/flo"
)

const (
	// more is the bit of a byte of a number that says that another one comes.
	more = 0x80
	// placeBytes is how many bytes the place of a floating number has.
	placeBytes = 8
)

// Writer is bytes that are being written; the zero one has none.
type Writer struct {
	b []byte
}

// Bytes: what was written, as a copy, as more may be written behind it.
func (w *Writer) Bytes() []byte { return slices.Clone(w.b) }

// Len: how many bytes were written.
func (w *Writer) Len() int { return len(w.b) }

// U: a number, seven bits a byte, the lowest first; all bytes but the last with the highest bit.
func (w *Writer) U(n uint64) {
	for n >= more {
		w.b = append(w.b, byte(n)|more)
		n >>= 7
	}
	w.b = append(w.b, byte(n))
}

// I: a number that may be below nought: twice it, or what is left of twice it, turned.
func (w *Writer) I(n int64) {
	// The shift to the right fills all bits with the sign: it turns them, or leaves them.
	w.U(uint64(n)<<1 ^ uint64(n>>63))
}

// F: a floating number: its place, the highest byte first, so that bytes rise as numbers do.
func (w *Writer) F(x float64) {
	k := flo.Key(x)
	for i := range placeBytes {
		w.b = append(w.b, byte(k>>(8*(placeBytes-1-i))))
	}
}

// S: a text: how many bytes, and these.
func (w *Writer) S(s string) {
	w.U(uint64(len(s)))
	w.b = append(w.b, s...)
}

// Flag: yes, or no.
func (w *Writer) Flag(yes bool) {
	c := byte(0)
	if yes {
		c = 1
	}
	w.b = append(w.b, c)
}
