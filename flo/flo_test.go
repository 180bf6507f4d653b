package flo

import (
	"math"
	"math/big"
	"testing"
)

const theForm = 0x7FF8000000000001

func bits(x float64) uint64 { return math.Float64bits(x) }

func of(b uint64) float64 { return math.Float64frombits(b) }

var lowNought = math.Copysign(0, -1)

// ladder: numbers in their one form, rising, the edges of each kind among them.
func ladder() []float64 {
	up := []float64{
		0,
		math.SmallestNonzeroFloat64,
		of(2),
		of(0x000FFFFFFFFFFFFF), // the greatest with a first bit 0
		of(0x0010000000000000), // the least with a first bit 1
		0.1, 1, of(0x3FF0000000000001), 1.5, 2, 3, 1 << 53, 1e300,
		of(0x7FEFFFFFFFFFFFFE),
		math.MaxFloat64,
		math.Inf(1),
	}
	var l []float64
	for i := len(up) - 1; i >= 0; i-- {
		l = append(l, math.Copysign(up[i], -1))
	}
	return append(append(l, up...), of(theForm))
}

// strays: what is no number, in other forms than the one.
func strays() []float64 {
	var l []float64
	for _, b := range []uint64{
		0x7FF8000000000000, 0x7FF8000000000002, 0x7FF0000000000001, 0x7FF7FFFFFFFFFFFF, 0x7FFFFFFFFFFFFFFF,
		0xFFF8000000000000, 0xFFF8000000000001, 0xFFF0000000000001, 0xFFFFFFFFFFFFFFFF,
	} {
		l = append(l, of(b))
	}
	return l
}

// chance: the same row of bit forms at every run.
func chance(n int) []float64 {
	var l []float64
	s := uint64(88172645463325252)
	for range n {
		s ^= s << 13
		s ^= s >> 7
		s ^= s << 17
		l = append(l, of(s))
	}
	return l
}

func all() []float64 { return append(append(ladder(), strays()...), chance(300)...) }

// P1.1

func TestCanonLeavesNumbers(t *testing.T) {
	for _, x := range ladder() {
		if bits(Canon(x)) != bits(x) || !Proper(x) {
			t.Errorf("%x: %x, %v", bits(x), bits(Canon(x)), Proper(x))
		}
	}
}

func TestCanonOfNoNumbers(t *testing.T) {
	for _, x := range append(strays(), math.NaN(), of(theForm)) {
		if bits(Canon(x)) != theForm {
			t.Errorf("%x: %x", bits(x), bits(Canon(x)))
		}
		if Proper(x) != (bits(x) == theForm) {
			t.Errorf("Proper of %x", bits(x))
		}
		if !Proper(Canon(x)) {
			t.Errorf("Proper of the one form of %x", bits(x))
		}
	}
}

// P1.2

func TestKey(t *testing.T) {
	for _, c := range []struct {
		x float64
		k uint64
	}{
		{0, 1 << 63},
		{lowNought, 1<<63 - 1},
		{1, 0xBFF0000000000000},
		{-1, 0x400FFFFFFFFFFFFF},
		{math.SmallestNonzeroFloat64, 1<<63 + 1},
		{-math.SmallestNonzeroFloat64, 1<<63 - 2},
		{math.MaxFloat64, 0xFFEFFFFFFFFFFFFF},
		{-math.MaxFloat64, 0x0010000000000000},
		{math.Inf(1), 0xFFF0000000000000},
		{math.Inf(-1), 0x000FFFFFFFFFFFFF},
		{of(theForm), 0xFFF8000000000001},
	} {
		if Key(c.x) != c.k {
			t.Errorf("Key(%v): %x, not %x", c.x, Key(c.x), c.k)
		}
		if x, ok := Back(c.k); !ok || bits(x) != bits(c.x) {
			t.Errorf("Back(%x): %x, %v", c.k, bits(x), ok)
		}
	}
	for _, x := range strays() {
		if Key(x) != 0xFFF8000000000001 {
			t.Errorf("Key of the stray %x: %x", bits(x), Key(x))
		}
	}
}

func TestBackOfKey(t *testing.T) {
	for _, x := range all() {
		if y, ok := Back(Key(x)); !ok || bits(y) != bits(Canon(x)) {
			t.Errorf("%x: %x, %v", bits(x), bits(y), ok)
		}
	}
}

func TestBackOfNone(t *testing.T) {
	for _, k := range []uint64{
		0, 1, 0x0007FFFFFFFFFFFE, 0x000FFFFFFFFFFFFE,
		0xFFF0000000000001, 0xFFF8000000000000, 0xFFF8000000000002, math.MaxUint64,
	} {
		if x, ok := Back(k); ok || bits(x) != 0 {
			t.Errorf("Back(%x): %x, %v", k, bits(x), ok)
		}
	}
}

// P1.3

func TestOrder(t *testing.T) {
	l := ladder()
	for i, a := range l {
		for j, b := range l {
			if Less(a, b) != (i < j) || Same(a, b) != (i == j) {
				t.Errorf("%v, %v: %v, %v", a, b, Less(a, b), Same(a, b))
			}
			if bits(Max(a, b)) != bits(l[max(i, j)]) || bits(Min(a, b)) != bits(l[min(i, j)]) {
				t.Errorf("%v, %v: %v, %v", a, b, Max(a, b), Min(a, b))
			}
		}
	}
}

func TestOrderOfStrays(t *testing.T) {
	for _, x := range strays() {
		for _, y := range append(strays(), of(theForm)) {
			if Less(x, y) || Less(y, x) || !Same(x, y) {
				t.Errorf("%x, %x", bits(x), bits(y))
			}
			if bits(Max(x, y)) != theForm || bits(Min(x, y)) != theForm {
				t.Errorf("Max, Min of %x, %x", bits(x), bits(y))
			}
		}
		if inf := math.Inf(1); !Less(inf, x) || Less(x, inf) || Same(x, inf) {
			t.Errorf("%x and what is above all", bits(x))
		}
		if bits(Max(x, 7)) != theForm || bits(Max(7, x)) != theForm || Min(x, 7) != 7 || Min(7, x) != 7 {
			t.Errorf("Max, Min of %x and 7", bits(x))
		}
	}
}

// P1.4

func TestSumsAndProducts(t *testing.T) {
	inf, tiny := math.Inf(1), math.SmallestNonzeroFloat64
	for _, c := range []struct{ a, b, sum, product float64 }{
		{1, 2, 3, 2},
		{3, -2, 1, -6},
		{0.1, 0.2, 0.30000000000000004, 0.020000000000000004},
		{1 << 53, 1, 1 << 53, 1 << 53},
		{0, lowNought, 0, lowNought},
		{lowNought, lowNought, lowNought, 0},
		{1, -1, 0, -1},
		{lowNought, 5, 5, lowNought},
		{math.MaxFloat64, math.MaxFloat64, inf, inf},
		{-math.MaxFloat64, -math.MaxFloat64, -inf, inf},
		{tiny, tiny, of(2), 0},
		{tiny, -tiny, 0, lowNought},
		{tiny, 0.5, 0.5, 0},
		{of(3), 0.5, 0.5, of(2)},
		{inf, -inf, of(theForm), -inf},
		{inf, 0, inf, of(theForm)},
		{-inf, lowNought, -inf, of(theForm)},
		{inf, -2, inf, -inf},
	} {
		for _, p := range [][2]float64{{c.a, c.b}, {c.b, c.a}} {
			if s := Plus(p[0], p[1]); bits(s) != bits(c.sum) {
				t.Errorf("%v + %v: %x, not %x", p[0], p[1], bits(s), bits(c.sum))
			}
			if m := Times(p[0], p[1]); bits(m) != bits(c.product) {
				t.Errorf("%v * %v: %x, not %x", p[0], p[1], bits(m), bits(c.product))
			}
		}
	}
}

func TestSumsAndProductsOfNoNumbers(t *testing.T) {
	for _, x := range append(strays(), of(theForm)) {
		for _, y := range all() {
			for _, z := range []float64{Plus(x, y), Plus(y, x), Times(x, y), Times(y, x)} {
				if bits(z) != theForm {
					t.Errorf("%x with %x: %x", bits(x), bits(y), bits(z))
				}
			}
		}
	}
}

func finite(x float64) bool { return !math.IsNaN(x) && !math.IsInf(x, 0) }

// TestRoundedOnce holds sums and products against exact ones, of which just one rounding is made.
func TestRoundedOnce(t *testing.T) {
	for _, a := range all() {
		for _, b := range all() {
			if !finite(a) || !finite(b) {
				continue
			}
			x, y := big.NewFloat(a), big.NewFloat(b)
			sum, _ := new(big.Float).SetPrec(2300).Add(x, y).Float64()
			product, _ := new(big.Float).SetPrec(2300).Mul(x, y).Float64()
			if bits(Plus(a, b)) != bits(sum) || bits(Times(a, b)) != bits(product) {
				t.Fatalf("%x, %x: %x, %x", bits(a), bits(b), bits(Plus(a, b)), bits(Times(a, b)))
			}
		}
	}
}

// TestProductIsRoundedAheadOfSum: 0.1 * 10 rounds up to 1; joined into one step, the sum would tell what was rounded.
func TestProductIsRoundedAheadOfSum(t *testing.T) {
	if x := Plus(Times(0.1, 10), -1); bits(x) != 0 {
		t.Errorf("%v", x)
	}
}

// P1.5

func TestAbove(t *testing.T) {
	for _, c := range []struct{ x, next float64 }{
		{math.Inf(-1), -math.MaxFloat64},
		{-1, of(0xBFEFFFFFFFFFFFFF)},
		{of(0x8010000000000000), of(0x800FFFFFFFFFFFFF)},
		{-math.SmallestNonzeroFloat64, lowNought},
		{lowNought, 0},
		{0, math.SmallestNonzeroFloat64},
		{of(0x000FFFFFFFFFFFFF), of(0x0010000000000000)},
		{1, of(0x3FF0000000000001)},
		{math.MaxFloat64, math.Inf(1)},
		{math.Inf(1), of(theForm)},
		{of(theForm), of(theForm)},
	} {
		if bits(Above(c.x)) != bits(c.next) {
			t.Errorf("Above(%v): %x, not %x", c.x, bits(Above(c.x)), bits(c.next))
		}
	}
	for _, x := range strays() {
		if bits(Above(x)) != theForm {
			t.Errorf("Above the stray %x: %x", bits(x), bits(Above(x)))
		}
	}
}

// TestNothingBetween: no place between a number's and the one above it has a number.
func TestNothingBetween(t *testing.T) {
	for _, x := range all() {
		next := Above(x)
		if !Proper(next) {
			t.Errorf("Above(%x) isn't in its one form", bits(x))
		}
		if math.IsNaN(x) || math.IsInf(x, 1) {
			continue
		}
		if Key(next) != Key(x)+1 {
			t.Errorf("Above(%x): %x", bits(x), bits(next))
		}
	}
}
