package sat

import (
	"math/big"
	"testing"

	"chronobate/api"
)

// edges are numbers at the ends, round 0, and round the powers of 2 at which a product or a sum leaves a word.
func edges() []int64 {
	out := []int64{least, least + 1, least + 2, greatest, greatest - 1, greatest - 2, 1000000, 1000000000, -1000000000}
	for i := int64(-5); i <= 5; i++ {
		out = append(out, i)
	}
	for _, shift := range []uint{8, 31, 32, 33, 61, 62} {
		for i := int64(-1); i <= 1; i++ {
			out = append(out, int64(1)<<shift+i, -(int64(1)<<shift)+i)
		}
	}
	return append(out, least/2-1, least/3, greatest/3)
}

// some are numbers of all sizes, the same ones at each run.
func some(n int) []int64 {
	out := make([]int64, n)
	x := uint64(88172645463325252)
	for i := range out {
		x ^= x << 13
		x ^= x >> 7
		x ^= x << 17
		out[i] = int64(x) >> (uint(i) * 5 % 64)
	}
	return out
}

// stopped is an exact number as an int64 that stops at the ends.
func stopped(n *big.Int) int64 {
	if n.IsInt64() {
		return n.Int64()
	}
	if n.Sign() < 0 {
		return least
	}
	return greatest
}

// floor is the floor of a / b; b is above 0.
func floor(a, b *big.Int) *big.Int {
	return new(big.Int).Div(a, b) // by Euclid: the floor, as long as b is above 0
}

func exact(a int64) *big.Int { return big.NewInt(a) }

// pairs hands all pairs of the edges, and many others, to f.
func pairs(f func(a, b int64)) {
	all := edges()
	for _, a := range all {
		for _, b := range all {
			f(a, b)
		}
	}
	many := some(4000)
	for i := 1; i < len(many); i++ {
		f(many[i-1], many[i])
	}
}

// triples hands all triples of the edges, and many others, to f.
func triples(f func(a, b, c int64)) {
	all := edges()
	for _, a := range all {
		for _, b := range all {
			for _, c := range all {
				f(a, b, c)
			}
		}
	}
	many := some(40000)
	for i := 2; i < len(many); i++ {
		f(many[i-2], many[i-1], many[i])
	}
}

func TestExamples(t *testing.T) {
	if n := Half(-3); n != -2 {
		t.Error("Half(-3):", n)
	}
	if n := Mid(-1, 2); n != 0 {
		t.Error("Mid(-1, 2):", n)
	}
	if n, e := MulDiv(-7, 1, 2); n != -4 || e != api.OK {
		t.Error("MulDiv(-7, 1, 2):", n, e)
	}
	if n := Neg(least); n != greatest {
		t.Error("Neg of the least:", n)
	}
}

// P1.1: written out, without another reckoning to lean on.
func TestSumsAtTheEnds(t *testing.T) {
	for _, c := range []struct{ a, b, sum, diff int64 }{
		{5, 7, 12, -2},
		{5, -7, -2, 12},
		{-5, -7, -12, 2},
		{0, 0, 0, 0},
		{greatest, 0, greatest, greatest},
		{greatest, 1, greatest, greatest - 1},
		{greatest - 1, 1, greatest, greatest - 2},
		{greatest, greatest, greatest, 0},
		{greatest, least, -1, greatest},
		{greatest, -1, greatest - 1, greatest},
		{least, 0, least, least},
		{least, 1, least + 1, least},
		{least + 1, 1, least + 2, least},
		{least, -1, least, least + 1},
		{least + 1, -1, least, least + 2},
		{least, greatest, -1, least},
		{least, least, least, 0},
		{0, least, least, greatest},
		{-1, least, least, greatest},
		{-2, least, least, greatest - 1},
		{1, least, least + 1, greatest},
		{-1, greatest, greatest - 1, least},
		{-2, greatest, greatest - 2, least},
	} {
		if n := Add(c.a, c.b); n != c.sum {
			t.Errorf("Add(%d, %d): %d, want %d", c.a, c.b, n, c.sum)
		}
		if n := Sub(c.a, c.b); n != c.diff {
			t.Errorf("Sub(%d, %d): %d, want %d", c.a, c.b, n, c.diff)
		}
	}
}

// P1.1
func TestSumsAreExactAndStop(t *testing.T) {
	pairs(func(a, b int64) {
		if n, want := Add(a, b), stopped(new(big.Int).Add(exact(a), exact(b))); n != want {
			t.Errorf("Add(%d, %d): %d, want %d", a, b, n, want)
		}
		if n, want := Sub(a, b), stopped(new(big.Int).Sub(exact(a), exact(b))); n != want {
			t.Errorf("Sub(%d, %d): %d, want %d", a, b, n, want)
		}
	})
}

// P1.1
func TestSigns(t *testing.T) {
	for _, c := range []struct{ a, neg, abs int64 }{
		{0, 0, 0},
		{1, -1, 1},
		{-1, 1, 1},
		{-5, 5, 5},
		{greatest, least + 1, greatest},
		{greatest - 1, least + 2, greatest - 1},
		{least, greatest, greatest},
		{least + 1, greatest, greatest},
		{least + 2, greatest - 1, greatest - 1},
	} {
		if n := Neg(c.a); n != c.neg {
			t.Errorf("Neg(%d): %d, want %d", c.a, n, c.neg)
		}
		if n := Abs(c.a); n != c.abs {
			t.Errorf("Abs(%d): %d, want %d", c.a, n, c.abs)
		}
	}
	pairs(func(a, _ int64) {
		if n, want := Neg(a), stopped(new(big.Int).Neg(exact(a))); n != want {
			t.Errorf("Neg(%d): %d, want %d", a, n, want)
		}
		if n, want := Abs(a), stopped(new(big.Int).Abs(exact(a))); n != want {
			t.Errorf("Abs(%d): %d, want %d", a, n, want)
		}
	})
}

// P1.1
func TestClamp(t *testing.T) {
	for _, c := range []struct{ a, lo, hi, want int64 }{
		{5, 7, 9, 7},
		{7, 7, 9, 7},
		{8, 7, 9, 8},
		{9, 7, 9, 9},
		{10, 7, 9, 9},
		{-8, -9, -7, -8},
		{0, least, greatest, 0},
		{least, least, greatest, least},
		{greatest, least, greatest, greatest},
		{least, 0, greatest, 0},
		{greatest, least, 0, 0},
		{3, 4, 4, 4},
		{5, 4, 4, 4},
		// lo above hi: below lo it is lo, however much above hi; from lo on it is hi.
		{5, 9, 7, 9},
		{7, 9, 7, 9},
		{8, 9, 7, 9},
		{9, 9, 7, 7},
		{10, 9, 7, 7},
		{0, greatest, least, greatest},
		{least, greatest, least, greatest},
		{greatest, greatest, least, least},
	} {
		if n := Clamp(c.a, c.lo, c.hi); n != c.want {
			t.Errorf("Clamp(%d, %d, %d): %d, want %d", c.a, c.lo, c.hi, n, c.want)
		}
	}
}

// P1.1
func TestHalf(t *testing.T) {
	for _, c := range [][2]int64{{0, 0}, {1, 0}, {2, 1}, {7, 3}, {-1, -1}, {-2, -1}, {-3, -2}, {-4, -2}, {greatest, 1<<62 - 1}, {greatest - 1, 1<<62 - 1}, {least, -1 << 62}, {least + 1, -1 << 62}, {least + 2, -1<<62 + 1}} {
		if n := Half(c[0]); n != c[1] {
			t.Errorf("Half(%d): %d, want %d", c[0], n, c[1])
		}
	}
	pairs(func(a, _ int64) {
		if n, want := Half(a), floor(exact(a), exact(2)).Int64(); n != want {
			t.Errorf("Half(%d): %d, want %d", a, n, want)
		}
	})
}

// P1.1, P1.3
func TestMid(t *testing.T) {
	for _, c := range [][3]int64{{3, 4, 3}, {-1, 2, 0}, {-3, 0, -2}, {-1, 0, -1}, {-1, -2, -2}, {4, 4, 4}, {greatest, greatest, greatest}, {greatest, greatest - 1, greatest - 1}, {least, least, least}, {least, least + 1, least}, {greatest, least, -1}, {greatest, 0, 1<<62 - 1}, {least, 0, -1 << 62}} {
		if n, turned := Mid(c[0], c[1]), Mid(c[1], c[0]); n != c[2] || turned != c[2] {
			t.Errorf("Mid of %d and %d: %d and %d, want %d", c[0], c[1], n, turned, c[2])
		}
	}
	pairs(func(a, b int64) {
		n := Mid(a, b)
		sum := new(big.Int).Add(exact(a), exact(b))
		if want := floor(sum, exact(2)).Int64(); n != want {
			t.Errorf("Mid(%d, %d): %d, want %d", a, b, n, want)
		}
		if n < min(a, b) || n > max(a, b) {
			t.Errorf("Mid(%d, %d): %d isn't between both", a, b, n)
		}
	})
}

// P1.2: written out, without another reckoning to lean on.
func TestMulDivAtTheEnds(t *testing.T) {
	for _, c := range []struct{ a, b, c, want int64 }{
		{7, 3, 2, 10},
		{-7, 3, 2, -11},
		{-8, 3, 2, -12},
		{2000, 500, 1000000, 1},
		{1999, 500, 1000000, 0},
		{-1, 500, 1000000, -1},
		{-2000, 500, 1000000, -1},
		{-2001, 500, 1000000, -2},
		{0, greatest, 1, 0},
		{greatest, 0, 1, 0},
		{least, 0, 1, 0},
		{least, 0, greatest, 0},
		{greatest, 1, 1, greatest},
		{greatest, 2, 1, greatest},
		{greatest, 2, 2, greatest},
		{greatest, greatest, 1, greatest},
		{greatest, greatest, greatest, greatest},
		{greatest, greatest, greatest - 1, greatest},
		{greatest, greatest - 1, greatest, greatest - 1},
		{1 << 62, 2, 1, greatest},
		{least, 1, 1, least},
		{least, 2, 1, least},
		{least, 3, 2, least},
		{least, 2, 3, -6148914691236517206},
		{least, greatest, 1, least},
		{least, greatest, greatest, least},
		{least, greatest, greatest - 1, least},
		{least, greatest - 1, greatest, least + 1},
		{least + 1, 1, 1, least + 1},
		{-1 << 62, 2, 1, least},
		{-1, 1, greatest, -1},
		{1, 1, greatest, 0},
		// Just above the least, the floor is the least without a stop: -(2^63 - 1/2).
		{-6148914691236517205, 3, 2, least},
		{-6148914691236517204, 3, 2, least + 2},
	} {
		if n, e := MulDiv(c.a, c.b, c.c); n != c.want || e != api.OK {
			t.Errorf("MulDiv(%d, %d, %d): %d, %v, want %d", c.a, c.b, c.c, n, e, c.want)
		}
	}
}

// P1.2
func TestMulDivIsExactAndStops(t *testing.T) {
	triples(func(a, b, c int64) {
		if b < 0 || c < 1 {
			return
		}
		product := new(big.Int).Mul(exact(a), exact(b))
		want := stopped(floor(product, exact(c)))
		if n, e := MulDiv(a, b, c); n != want || e != api.OK {
			t.Errorf("MulDiv(%d, %d, %d): %d, %v, want %d", a, b, c, n, e, want)
		}
	})
}

// P1.2
func TestMulDivRefuses(t *testing.T) {
	for _, c := range [][3]int64{{5, -1, 2}, {5, least, 2}, {5, 1, 0}, {5, 1, -1}, {5, 1, least}, {5, -1, 0}, {5, -1, -1}, {0, -1, 1}, {0, 0, 0}, {least, least, least}, {greatest, greatest, 0}} {
		if n, e := MulDiv(c[0], c[1], c[2]); n != 0 || e != api.ErrArg {
			t.Errorf("MulDiv(%d, %d, %d): %d, %v, want 0, %v", c[0], c[1], c[2], n, e, api.ErrArg)
		}
	}
	triples(func(a, b, c int64) {
		if b >= 0 && c >= 1 {
			return
		}
		if n, e := MulDiv(a, b, c); n != 0 || e != api.ErrArg {
			t.Errorf("MulDiv(%d, %d, %d): %d, %v, want 0, %v", a, b, c, n, e, api.ErrArg)
		}
	})
}

// P1.3: the quotient lies between a and 0, and so does its floor, as a and 0 are whole.
func TestMulDivByAPartIsNoFurther(t *testing.T) {
	triples(func(a, b, c int64) {
		if b < 0 || c < 1 || b > c {
			return
		}
		n, e := MulDiv(a, b, c)
		if e != api.OK || n < min(a, 0) || n > max(a, 0) {
			t.Errorf("MulDiv(%d, %d, %d): %d, %v is further from 0", a, b, c, n, e)
		}
	})
}

// The numbers go by functions of any ordered type: others than int64 are held against each other alike.
func TestAnyOrderedType(t *testing.T) {
	if !below("a", "b") || below("b", "a") || below(1.5, 1.5) || !below(uint64(greatest), 1<<63) {
		t.Error("below")
	}
	if between("m", "a", "k") != "k" || between(0.5, 1.5, 2.5) != 1.5 || between(uint8(7), 5, 9) != 7 {
		t.Error("between")
	}
}
