// Package flo has floating numbers in one order, the edges too.
package flo

import "math"

const (
	// noNumber is the bits of the one form of all that are no numbers.
	noNumber = 0x7FF8000000000001
	// highest is the bit that tells numbers below nought from the others.
	highest = 1 << 63
)

// Canon: a number in its one form: of all that are none one is taken.
func Canon(x float64) float64 {
	if math.IsNaN(x) {
		return math.Float64frombits(noNumber)
	}
	return x
}

// Proper: is a number in its one form?
func Proper(x float64) bool {
	return math.Float64bits(x) == math.Float64bits(Canon(x))
}

// Key: a number's place in the order.
func Key(x float64) uint64 {
	bits := math.Float64bits(Canon(x))
	if bits&highest == 0 {
		return bits | highest
	}
	return ^bits
}

// Back: the number at a place; false: there is none.
func Back(k uint64) (float64, bool) {
	bits := ^k
	if k&highest != 0 {
		bits = k &^ highest
	}
	x := math.Float64frombits(bits)
	if !Proper(x) {
		return 0, false
	}
	return x, true
}

// Less: is a number ahead of another one?
func Less(a, b float64) bool { return Key(a) < Key(b) }

// Same: are both at the same place?
func Same(a, b float64) bool { return Key(a) == Key(b) }

// Max: the one behind, in its one form.
func Max(a, b float64) float64 {
	if Less(a, b) {
		return Canon(b)
	}
	return Canon(a)
}

// Min: the one ahead, in its one form.
func Min(a, b float64) float64 {
	if Less(b, a) {
		return Canon(b)
	}
	return Canon(a)
}

// Plus: both together. The conversions here and in Times keep a compiler from joining a product and a sum into one step, which wouldn't round the product.
func Plus(a, b float64) float64 { return Canon(float64(a + b)) }

// Times: the one as often as the other one.
func Times(a, b float64) float64 { return Canon(float64(a * b)) }

// Above: the next number in the order; behind the last one there is none but that.
func Above(x float64) float64 {
	if next, ok := Back(Key(x) + 1); ok {
		return next
	}
	// Behind what is above all, places are left free up to what is no number.
	return math.Float64frombits(noNumber)
}
