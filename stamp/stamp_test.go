package stamp

import (
	"math"
	"math/big"
	"testing"
)

const (
	second   = 1000000000
	least    = math.MinInt64
	greatest = math.MaxInt64
	top      = math.MaxUint64        // the last stamp of a round
	last     = 4294967296*second - 1 // the last nanosecond of the round that begins at 0
	half     = 2147483648 * second   // half a round
)

// moments are nanoseconds at the ends, round 0, round whole seconds, and round halves and wholes of a round, on both sides of 0.
func moments() []int64 {
	var out []int64
	for _, mid := range []int64{0, 1, second / 2, second, 7 * second, half, last, 2 * half, 3 * half, 1 << 32, 1 << 62, 1700000000 * second} {
		for i := int64(-5); i <= 5; i++ {
			out = append(out, mid+i, -mid+i)
		}
	}
	for i := int64(0); i <= 5; i++ {
		out = append(out, least+i, greatest-i)
	}
	return out
}

// stamps are stamps at the ends, round 0, round whole seconds, and round half a round.
func stamps() []uint64 {
	var out []uint64
	for _, mid := range []uint64{0, 1 << 9, 1 << 23, 1 << 31, 1 << 32, 7 << 32, 1<<63 - 1<<32, 1 << 63, 1<<63 + 1<<32, 3 << 62} {
		for i := uint64(0); i <= 6; i++ {
			out = append(out, mid+i, mid-i)
		}
	}
	return out
}

// some are numbers of all sizes, the same ones at each run.
func some(n int) []uint64 {
	out := make([]uint64, n)
	x := uint64(88172645463325252)
	for i := range out {
		x ^= x << 13
		x ^= x >> 7
		x ^= x << 17
		out[i] = x >> (uint(i) * 5 % 64)
	}
	return out
}

// eachMoment hands the moments, and many others, to f.
func eachMoment(f func(ns int64)) {
	for _, ns := range moments() {
		f(ns)
	}
	for _, x := range some(20000) {
		f(int64(x))
		f(-int64(x))
	}
}

// eachStamp hands the stamps, and many others, to f.
func eachStamp(f func(s uint64)) {
	for _, s := range stamps() {
		f(s)
	}
	for _, x := range some(20000) {
		f(x)
		f(-x)
	}
}

// eachPair hands all pairs of the stamps, and many others, to f.
func eachPair(f func(a, b uint64)) {
	for _, a := range stamps() {
		for _, b := range stamps() {
			f(a, b)
		}
	}
	many := some(40000)
	for i := 1; i < len(many); i++ {
		f(many[i-1], many[i])
		f(many[i-1], many[i-1]-many[i])
	}
}

// floorOf is the floor of n * times / by, without an end; by is above 0.
func floorOf(n *big.Int, times, by int64) *big.Int {
	product := new(big.Int).Mul(n, big.NewInt(times))
	return product.Div(product, big.NewInt(by)) // by Euclid: the floor, as long as by is above 0
}

// wrapped is an exact number as a uint64, round and round.
func wrapped(n *big.Int) uint64 {
	round := new(big.Int).Lsh(big.NewInt(1), 64)
	return new(big.Int).Mod(n, round).Uint64()
}

// stopped is an exact number as an int64 that stops at the ends.
func stopped(n *big.Int) int64 {
	if n.IsInt64() {
		return n.Int64()
	}
	if n.Sign() < 0 {
		return least
	}
	return greatest
}

func TestExamples(t *testing.T) {
	if s := From(1000000000); s != 4294967296 {
		t.Error("From(1000000000):", s)
	}
	if s := From(-1); s != 18446744073709551611 {
		t.Error("From(-1):", s)
	}
	if n := Diff(0, 1); n != -1 {
		t.Error("Diff(0, 1):", n)
	}
}

// P2.1: written out, without another reckoning to lean on.
func TestFromWrittenOut(t *testing.T) {
	for _, c := range []struct {
		ns   int64
		want uint64
	}{
		{0, 0},
		{1, 4},
		{2, 8},
		{7, 30},
		{second / 2, 1 << 31},
		{second - 1, 1<<32 - 5},
		{second, 1 << 32},
		{second + 1, 1<<32 + 4},
		{half - 1, 1<<63 - 5},
		{half, 1 << 63},
		{last, top - 4},
		{last + 1, 0},
		{last + 2, 4},
		{-1, top - 4},
		{-2, top - 8},
		{-second / 2, top - 1<<31 + 1},
		{-second, top - 1<<32 + 1},
		{-second - 1, top - 1<<32 - 4},
		{-half, 1 << 63},
		{-last - 1, 0},
		{-last, 4},
		{greatest, 633437444<<32 + 3671234136},
		{least, 3661529851<<32 + 623733155},
	} {
		if s := From(c.ns); s != c.want {
			t.Errorf("From(%d): %d, want %d", c.ns, s, c.want)
		}
	}
}

// P2.1
func TestFromIsTheFloorRoundAndRound(t *testing.T) {
	eachMoment(func(ns int64) {
		if s, want := From(ns), wrapped(floorOf(big.NewInt(ns), 1<<32, second)); s != want {
			t.Errorf("From(%d): %d, want %d", ns, s, want)
		}
	})
}

// P2.1
func TestNs(t *testing.T) {
	for _, c := range []struct {
		s    uint64
		want int64
	}{
		{0, 0},
		{1, 0},
		{4, 0},
		{5, 1},
		{8, 1},
		{9, 2},
		{1 << 23, 1953125},
		{1<<23 - 1, 1953124},
		{1 << 31, second / 2},
		{1<<32 - 1, second - 1},
		{1 << 32, second},
		{1<<63 - 1, half - 1},
		{1 << 63, half},
		{top - 4, last - 1},
		{top - 3, last},
		{top, last},
	} {
		if ns := Ns(c.s); ns != c.want {
			t.Errorf("Ns(%d): %d, want %d", c.s, ns, c.want)
		}
	}
	eachStamp(func(s uint64) {
		if ns, want := Ns(s), floorOf(new(big.Int).SetUint64(s), second, 1<<32); !want.IsInt64() || ns != want.Int64() {
			t.Errorf("Ns(%d): %d, want %d", s, ns, want)
		}
	})
}

// P2.2: written out, without another reckoning to lean on.
func TestDiffWrittenOut(t *testing.T) {
	for _, c := range []struct {
		a, b uint64
		want int64
	}{
		{0, 0, 0},
		{top, top, 0},
		{1 << 63, 1 << 63, 0},
		{1, 0, 0},
		{4, 0, 0},
		{5, 0, 1},
		{0, 1, -1},
		{0, 4, -1},
		{0, 5, -2},
		{0, 8, -2},
		{0, 9, -3},
		{0, 1 << 23, -1953125},
		{0, 1<<23 + 1, -1953126},
		{1 << 32, 0, second},
		{0, 1 << 32, -second},
		{0, 1 << 31, -second / 2},
		{0, top, 0},
		{top, 0, -1},
		{4, top, 1},
		{top, 4, -2},
		{3, top - 1, 1},
		{1<<63 - 1, 0, half - 1},
		{1 << 63, 0, -half},
		{0, 1 << 63, -half},
		{1<<63 + 1, 0, -half},
		{1<<63 + 5, 0, -half + 1},
		{0, 1<<63 - 1, -half},
		{0, 1<<63 + 1, half - 1},
		{top, 1 << 63, half - 1},
		{top, 1<<63 - 1, -half},
	} {
		if n := Diff(c.a, c.b); n != c.want {
			t.Errorf("Diff(%d, %d): %d, want %d", c.a, c.b, n, c.want)
		}
	}
}

// P2.2
func TestDiffIsTheFloorOfTheShortWay(t *testing.T) {
	eachPair(func(a, b uint64) {
		way := big.NewInt(int64(a - b))
		if n, want := Diff(a, b), floorOf(way, second, 1<<32).Int64(); n != want {
			t.Errorf("Diff(%d, %d): %d, want %d", a, b, n, want)
		}
	})
}

// P2.2: written out, without another reckoning to lean on.
func TestNearWrittenOut(t *testing.T) {
	for _, c := range []struct {
		base int64
		s    uint64
		want int64
	}{
		{0, 0, 0},
		{0, 1 << 32, second},
		{0, top - 1<<32 + 1, -second},
		{second, 0, 0},
		{7 * second, 7 << 32, 7 * second},
		{2 * half, 1 << 32, 2*half + second},
		{2 * half, top - 1<<32 + 1, 2*half - second},
		{-5 * second, top - 7<<32 + 1, -7 * second},
		{0, 1<<63 - 1, half - 1},
		{0, 1 << 63, -half},
		{half, 0, 0},
		{half, top, 2*half - 1},
		{greatest, From(greatest), greatest},
		{greatest, From(greatest) + 4, greatest},
		{greatest, From(greatest) + 5, greatest},
		{greatest, From(greatest) + 1<<40, greatest},
		{greatest, From(greatest) + 1<<63 - 1, greatest},
		{greatest, From(greatest) - 1<<32, greatest - second},
		{greatest - 1, From(greatest) + 1<<32, greatest},
		{greatest, From(greatest) + 1<<63, greatest - half},
		{least, From(least), least},
		{least, From(least) - 1, least},
		{least, From(least) - 1<<40, least},
		{least, From(least) + 1<<63, least},
		{least, From(least) + 1<<32, least + second},
		{least + 1, From(least) - 1<<32, least},
		{least, From(least) + 1<<63 - 1, least + half - 1},
	} {
		if n := Near(c.base, c.s); n != c.want {
			t.Errorf("Near(%d, %d): %d, want %d", c.base, c.s, n, c.want)
		}
	}
}

// P2.2
func TestNearIsBaseAndTheWayAndStops(t *testing.T) {
	check := func(base int64, s uint64) {
		own := wrapped(floorOf(big.NewInt(base), 1<<32, second))
		way := floorOf(big.NewInt(int64(s-own)), second, 1<<32)
		if n, want := Near(base, s), stopped(way.Add(way, big.NewInt(base))); n != want {
			t.Errorf("Near(%d, %d): %d, want %d", base, s, n, want)
		}
	}
	for _, base := range moments() {
		for _, s := range stamps() {
			check(base, s)
			check(base, From(base)+s)
		}
	}
	eachPair(func(a, b uint64) { check(int64(a), b) })
}

// P2.3
func TestThereAndBackIsOneLessAtMost(t *testing.T) {
	eachMoment(func(ns int64) {
		if ns < 0 || ns > last {
			return
		}
		if back := Ns(From(ns)); back != ns && back != ns-1 {
			t.Errorf("Ns(From(%d)): %d", ns, back)
		}
	})
	// The range ends there: the next one begins a new round.
	if back := Ns(From(last + 1)); back != 0 {
		t.Errorf("Ns(From(%d)): %d", last+1, back)
	}
}

// apart are pairs of nanoseconds that are less than half a round apart.
func apart(f func(a, b int64)) {
	exact := func(n int64) *big.Int { return big.NewInt(n) }
	check := func(a, b int64) {
		way := new(big.Int).Sub(exact(a), exact(b))
		if way.CmpAbs(exact(half)) < 0 {
			f(a, b)
		}
	}
	for _, a := range moments() {
		for _, b := range moments() {
			check(a, b)
		}
		for i := int64(1); i <= 9; i++ {
			check(a, a+half-i)
			check(a, a-half+i)
		}
	}
	many := some(40000)
	for i := 1; i < len(many); i++ {
		check(int64(many[i-1]), int64(many[i]))
		check(int64(many[i-1]), int64(many[i-1])+int64(many[i]))
	}
}

// farther tells whether two numbers are more than most apart; as uint64, since the way between two int64 may be no int64.
func farther(a, b int64, most uint64) bool { return uint64(max(a, b))-uint64(min(a, b)) > most }

// P2.3
func TestDiffOfMomentsIsTwoAwayAtMost(t *testing.T) {
	apart(func(a, b int64) {
		if n := Diff(From(a), From(b)); farther(n, a-b, 2) {
			t.Errorf("Diff of the stamps of %d and %d: %d, their difference is %d", a, b, n, a-b)
		}
	})
}

// P2.3
func TestNearFindsTheMomentAgain(t *testing.T) {
	apart(func(ns, base int64) {
		if n := Near(base, From(ns)); farther(n, ns, 2) {
			t.Errorf("Near %d the stamp of %d: %d", base, ns, n)
		}
	})
}

// A stamp's halves are a pair that is compared as it is: by both halves, and the pair makes the same stamp again.
func TestHalves(t *testing.T) {
	if halves(7<<32+5) != (pair{7, 5}) || halves(top) != (pair{1<<32 - 1, 1<<32 - 1}) || halves(0) != (pair{}) {
		t.Error("halves")
	}
	eachPair(func(a, b uint64) {
		if (halves(a) == halves(b)) != (a == b) || halves(a).stamp() != a {
			t.Errorf("the halves of %d and %d: %v and %v", a, b, halves(a), halves(b))
		}
	})
}
