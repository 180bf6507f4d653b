package pack

import (
	"slices"

	"moiety/api"
	"moiety/flo"
)

// numberBytes is how many bytes a number has at most: nine of seven bits leave one bit for the last one.
const numberBytes = 10

// Fault is why bytes can't be read, and how many were read ahead.
type Fault struct {
	Code api.Errno
	At   int
}

// Reader is bytes that are being read. Its calls throw a Fault, where they can't be; what was read by then stays read.
type Reader struct {
	b  []byte
	at int
}

// New: from the first byte on, of a copy, as what is handed in isn't kept.
func New(b []byte) *Reader { return &Reader{b: slices.Clone(b)} }

// Left: how many bytes weren't read.
func (r *Reader) Left() int { return len(r.b) - r.at }

// Fail throws a Fault with that code where reading stands, also for one who reads and can't use what was read.
func (r *Reader) Fail(e api.Errno) { panic(Fault{Code: e, At: r.at}) }

func (r *Reader) next() byte {
	if r.Left() == 0 {
		r.Fail(api.ErrShort)
	}
	c := r.b[r.at]
	r.at++
	return c
}

// U: a number.
func (r *Reader) U() uint64 {
	n := uint64(0)
	for i := range numberBytes {
		c := r.next()
		if i == numberBytes-1 && c > 1 {
			r.Fail(api.ErrRange)
		}
		n |= uint64(c&^more) << (7 * i)
		if c >= more {
			continue
		}
		if c == 0 && i > 0 {
			r.Fail(api.ErrForm)
		}
		break
	}
	return n
}

// Upto: a number that is at most that.
func (r *Reader) Upto(most int) int {
	n := r.U()
	if above(n, most) {
		r.Fail(api.ErrRange)
	}
	return int(n)
}

func above(n uint64, most int) bool { return n > uint64(max(most, 0)) }

// I: a number that may be below nought.
func (r *Reader) I() int64 {
	n := r.U()
	// An odd number is one below nought: its half is turned bit by bit.
	return int64(n>>1 ^ -(n & 1))
}

// F: a floating number.
func (r *Reader) F() float64 {
	k := uint64(0)
	for range placeBytes {
		k = k<<8 | uint64(r.next())
	}
	x, ok := flo.Back(k)
	if !ok {
		r.Fail(api.ErrForm)
	}
	return x
}

// S: a text of at most so many bytes.
func (r *Reader) S(most int) string {
	n := r.U()
	if above(n, most) {
		r.Fail(api.ErrLong)
	}
	if above(n, r.Left()) {
		r.Fail(api.ErrShort)
	}
	from := r.at
	r.at += int(n)
	return string(r.b[from:r.at])
}

// Flag: yes, or no.
func (r *Reader) Flag() bool {
	c := r.next()
	if c > 1 {
		r.Fail(api.ErrForm)
	}
	return c == 1
}

// End: all was read.
func (r *Reader) End() {
	if r.Left() > 0 {
		r.Fail(api.ErrLong)
	}
}
