package sample

import (
	"math"
	"math/big"
	"sync"
	"testing"

	"chronobate/api"
)

const (
	least    = math.MinInt64
	greatest = math.MaxInt64
	second   = 1000000000
	whole    = 1 << 32 // the stamp of a second
	grain    = 1 << 23 // the least stamp that is a whole number of nanoseconds
	grainNs  = 1953125 // as many; it is odd
	apart    = 1 << 30 * second
)

// ahead is the stamp that is so much ahead of 0.
func ahead(s uint64) uint64 { return -s }

// chance are numbers that look like chance, and are the same each time.
type chance uint64

func (x *chance) next() uint64 {
	*x ^= *x << 13
	*x ^= *x >> 7
	*x ^= *x << 17
	return uint64(*x)
}

// spread is a number of any size.
func (x *chance) spread() int64 { return int64(x.next()) >> (x.next() % 64) }

// way is a way of any size, less than n.
func (x *chance) way(n int64) int64 { return int64(x.next()>>(x.next()%64)) & greatest % n }

// ends are numbers at the ends of int64, round 0, and at those at which two of them leave it.
func ends() []int64 {
	return []int64{least, least + 1, least + 2, -1<<62 - 1, -1 << 62, -second, -2, -1, 0, 1, 2, second, 1<<62 - 1, 1 << 62, greatest - 2, greatest - 1, greatest}
}

// stopped is an exact number as an int64 that stops at the ends.
func stopped(n *big.Int) int64 {
	if n.IsInt64() {
		return n.Int64()
	}
	if n.Sign() < 0 {
		return least
	}
	return greatest
}

func exact(n int64) *big.Int { return big.NewInt(n) }

func sum(a, b *big.Int) *big.Int { return new(big.Int).Add(a, b) }

func less(a, b *big.Int) *big.Int { return new(big.Int).Sub(a, b) }

// floorOf is the floor of n * times / by.
func floorOf(n *big.Int, times, by int64) *big.Int {
	product := new(big.Int).Mul(n, exact(times))
	return product.Div(product, exact(by)) // by Euclid: the floor, as long as by is above 0
}

// stampOf is the stamp of nanoseconds that may lie beyond int64.
func stampOf(ns *big.Int) uint64 {
	round := new(big.Int).Lsh(exact(1), 64)
	return round.Mod(floorOf(ns, whole, second), round).Uint64()
}

// shortWay is how many nanoseconds the stamp a is later than b, the short way round.
func shortWay(a, b uint64) *big.Int { return floorOf(exact(int64(a-b)), second, whole) }

// paperMake is what Make must tell, reckoned with exact numbers.
func paperMake(sent, came int64, recv, xmit uint64) (int64, int64) {
	there := shortWay(recv, stampOf(exact(sent)))
	back := shortWay(xmit, stampOf(exact(came)))
	off := floorOf(sum(there, back), 1, 2)
	waited := stopped(less(exact(came), exact(sent)))
	took := stopped(less(exact(waited), shortWay(xmit, recv)))
	if took < 0 {
		took = 0
	}
	return off.Int64(), took
}

// makes holds what Make tells against what it should.
func makes(t *testing.T, sent, came int64, recv, xmit uint64, off, took int64) {
	t.Helper()
	if o, d := Make(sent, came, recv, xmit); o != off || d != took {
		t.Errorf("Make(%d, %d, %d, %d): %d, %d, want %d, %d", sent, came, recv, xmit, o, d, off, took)
	}
}

// The chapter's example, and the sixth of the whole.
func TestExamples(t *testing.T) {
	makes(t, 0, 2000000000, 6*whole, 6*whole, 5000000000, 2000000000)
	makes(t, 0, 2*api.Second, stampOf(exact(6000000000)), stampOf(exact(6000000000)), 5*api.Second, 2*api.Second)
}

// P8.1: a clock that is behind, ahead, and not off at all.
func TestMakeOffset(t *testing.T) {
	for _, c := range []struct{ sent, came, recv, xmit, off, took int64 }{
		{0, 0, 0, 0, 0, 0},
		{0, 2, 1, 1, 0, 2},
		{10, 16, 12, 14, 0, 4},
		{-10, -4, -8, -6, 0, 4},
		{0, 2, 6, 6, 5, 2},
		{100, 104, 1101, 1103, 1000, 2},
		{-5, 1, 3, 3, 5, 6},
		{10, 14, 3, 5, -8, 2},
		{0, 2, -6, -6, -7, 2},
		{-20, -10, -120, -118, -104, 8},
		// Ways of two lengths: half of the difference is told beside.
		{0, 10, 10, 10, 5, 10},
		{0, 10, 0, 0, -5, 10},
		{0, 10, 108, 108, 103, 10},
		{0, 10, 93, 97, 90, 6},
	} {
		makes(t, c.sent*second, c.came*second, uint64(c.recv*whole), uint64(c.xmit*whole), c.off*second, c.took*second)
	}
}

// P8.1: of a sum that is odd the middle is the floor.
func TestMakeMiddleIsTheFloor(t *testing.T) {
	// Both differences are whole, so that nothing but the middle is cut off.
	makes(t, 0, 0, grain, 0, 976562, grainNs)
	makes(t, 0, 0, 0, grain, 976562, 0)
	makes(t, 0, 0, ahead(grain), 0, -976563, 0)
	makes(t, 0, 0, 0, ahead(grain), -976563, grainNs)
	makes(t, 0, 0, 2*grain, grain, 2929687, grainNs)
	makes(t, 0, 0, ahead(2*grain), ahead(grain), -2929688, 0)
	makes(t, 0, 0, 2*grain, ahead(grain), 976562, 3*grainNs)
	makes(t, 0, 0, ahead(2*grain), grain, -976563, 0)
	// Even ones, too.
	makes(t, 0, 0, grain, grain, grainNs, 0)
	makes(t, 0, 0, ahead(grain), ahead(grain), -grainNs, 0)
	makes(t, 0, 0, 3*grain, grain, 2*grainNs, 2*grainNs)
	makes(t, 0, 0, grain, ahead(grain), 0, 2*grainNs)
}

// P8.1: each difference of stamps is a floor of its own, ahead of the middle.
func TestMakeOfSingleParts(t *testing.T) {
	makes(t, 0, 0, 1, 0, 0, 1)           // 0 and 0; the server's is -1
	makes(t, 0, 0, 0, 1, 0, 0)           // 0 and 0; 0
	makes(t, 0, 0, ahead(1), 0, -1, 0)   // -1 and 0; 0
	makes(t, 0, 0, 0, ahead(1), -1, 1)   // 0 and -1; -1
	makes(t, 0, 0, 5, 5, 1, 0)           // 1 and 1
	makes(t, 0, 0, 5, 0, 0, 2)           // 1 and 0; -2
	makes(t, 0, 0, 13, 0, 1, 4)          // 3 and 0; -4
	makes(t, 0, 0, 13, ahead(13), -1, 7) // 3 and -4; -7
	makes(t, 0, 5, 4, 4, -2, 5)          // 0 and -4 (From(5) is 21; -17 parts)
	makes(t, -1, -1, 0, 0, 1, 0)         // From(-1) is 5 parts ahead of 0
}

// P8.1: an answer that came no later than its query was sent.
func TestMakeSentBehindCame(t *testing.T) {
	makes(t, 5*second, 5*second, 5*whole, 5*whole, 0, 0)
	makes(t, 5*second, 5*second, 9*whole, 9*whole, 4*second, 0)
	makes(t, 5*second, 5*second, 1*whole, 1*whole, -4*second, 0)
	makes(t, 7*second, 5*second, 6*whole, 6*whole, 0, 0)
	makes(t, 7*second, 5*second, 16*whole, 16*whole, 10*second, 0)
	makes(t, 7*second, 5*second, 6*whole, 5*whole, -second/2, 0)
	makes(t, 7*second, 5*second, 6*whole, 4*whole, -1*second, 0)
	makes(t, 7*second, 5*second, 6*whole, 3*whole, -3*second/2, 1*second)
	makes(t, 7*second+1, 7*second, 7*whole, 7*whole, -1, 0) // -2 and 0
	makes(t, greatest, least, 0, 0, offsetOf(greatest, least, 0, 0), 0)
}

// offsetOf is what Make must tell as the first of both.
func offsetOf(sent, came int64, recv, xmit uint64) int64 {
	off, _ := paperMake(sent, came, recv, xmit)
	return off
}

// P8.1: a server that has the query longer than it took: 0, not less.
func TestMakeTookIsNotBelowZero(t *testing.T) {
	makes(t, 0, 1*second, 0, 1*whole, 0, 0)
	makes(t, 0, 1*second, 0, 1*whole-grain, -976563, grainNs)
	makes(t, 0, 1*second, 0, 1*whole+grain, 976562, 0)
	makes(t, 0, 1*second, 0, 3*whole, 1*second, 0)
	makes(t, 0, 1*second, 100*whole, 1100*whole, 599*second+second/2, 0)
	makes(t, 0, 0, 0, 1<<63-1, apart-1, 0)
	makes(t, greatest, least, 0, 1<<63-1, offsetOf(greatest, least, 0, 1<<63-1), 0)
}

// P8.1: stamps go round, also between the server's two, and between them and the clock's.
func TestMakeStampsGoRound(t *testing.T) {
	const last = 4294967296 * second // one round
	for _, c := range []struct {
		sent, came int64
		recv, xmit uint64
		off, took  int64
	}{
		{-2 * second, 2 * second, ahead(1 * whole), 1 * whole, 0, 2 * second},
		{-2 * second, 2 * second, ahead(1 * whole), ahead(1 * whole), -1 * second, 4 * second},
		{-2 * second, 2 * second, 1 * whole, ahead(1 * whole), 0, 6 * second},
		{-2 * second, 2 * second, 1 * whole, 1 * whole, 1 * second, 4 * second},
		{0, 2 * second, ahead(4 * whole), ahead(3 * whole), -9 * second / 2, 1 * second},
		{0, 2 * second, ahead(1 * whole), 1 * whole, -1 * second, 0},
		{-2 * second, -1 * second, 3 * whole, 3 * whole, 9 * second / 2, 1 * second},
		// The clock is rounds away: its stamps are the same.
		{last - 2*second, last + 2*second, ahead(1 * whole), 1 * whole, 0, 2 * second},
		{-last - 2*second, -last + 2*second, ahead(1 * whole), 1 * whole, 0, 2 * second},
		{last, last + 2*second, 6 * whole, 6 * whole, 5 * second, 2 * second},
		{2*last - 1*second, 2*last + 1*second, 0, 0, 0, 2 * second},
		{0, last, 0, 0, 0, last},
	} {
		makes(t, c.sent, c.came, c.recv, c.xmit, c.off, c.took)
	}
}

// P8.1: a server that sent ahead of what it had: it took longer.
func TestMakeXmitAheadOfRecv(t *testing.T) {
	makes(t, 0, 4*second, 3*whole, 1*whole, 0, 6*second)
	makes(t, 0, 0, 1*whole, 0, second/2, 1*second)
	makes(t, 0, 4*second, 3*whole, 3*whole-grain, 1*second-976563, 4*second+grainNs)
	// Half a round counts as ahead.
	makes(t, 0, 0, 0, 1<<63, -apart, 2*apart)
	makes(t, 0, 0, 1<<63, 0, -apart, 2*apart)
	makes(t, 0, 0, 1<<63, 1<<63, -2*apart, 0)
}

// P8.1: times at the ends: each difference stops by itself.
func TestMakeAtTheEnds(t *testing.T) {
	for _, c := range []struct {
		sent, came int64
		recv, xmit uint64
		took       int64
	}{
		{least, greatest, 0, 0, greatest},
		{least, greatest, 0, whole, greatest - second},
		{least, greatest, whole, 0, greatest},
		{least, greatest, 0, 1 << 63, greatest},
		{least, greatest, 7, 1<<63 + 6, greatest - 1<<31*second + 1},
		{-1, greatest, 0, 0, greatest},
		{-1, greatest, 0, whole, greatest - second},
		{-2, greatest, 0, grain, greatest - grainNs},
		{0, greatest, 0, 0, greatest},
		{0, greatest, 0, grain, greatest - grainNs},
		{0, greatest - second, whole, 0, greatest},
		{0, greatest - second, 2 * whole, 0, greatest},
		{1, greatest, 0, 0, greatest - 1},
		{least, -1, 0, 0, greatest},
		{least, -2, 0, 0, greatest - 1},
		{least, 0, 0, 0, greatest},
		{least, 0, 0, whole, greatest - second},
		{least, least, 0, 0, 0},
		{greatest, greatest, 0, 0, 0},
		{greatest, greatest, whole, 0, second},
		{greatest, least, 0, 0, 0},
		{greatest, least, whole, 0, 0},
		{greatest, least, 0, whole, 0},
		{greatest, least, 0, 1 << 63, 0},
		{0, least, 0, 0, 0},
		{greatest, -2, 0, whole, 0},
	} {
		makes(t, c.sent, c.came, c.recv, c.xmit, offsetOf(c.sent, c.came, c.recv, c.xmit), c.took)
	}
}

// P8.1: of clocks at the first and the last of their times, by their stamps written out.
func TestMakeOffsetAtTheEnds(t *testing.T) {
	const first, last = 3661529851<<32 + 623733155, 633437444<<32 + 3671234136
	for _, off := range []int64{0, 1, -1, 5, -5, 1 << 30, -1 << 30} {
		by := uint64(off * whole)
		makes(t, greatest, greatest, last+by, last+by, off*second, 0)
		makes(t, least, least, first+by, first+by, off*second, 0)
	}
	makes(t, greatest, greatest, last+2*whole, last-6*whole, -2*second, 8*second)
	makes(t, least, least, first+7*whole, first+1*whole, 4*second, 6*second)
	makes(t, least, greatest, first+5*whole, first+6*whole, -633437439354775808, greatest-1*second)
}

// P8.1: how long a server has a query plays no part in how long it took.
func TestMakeHeldPlaysNoPart(t *testing.T) {
	for _, off := range []int64{0, 3, -3, 1 << 29, -1 << 29} {
		for _, held := range []int64{0, 1, 2, 511, 512, 1000000, 1 << 29} {
			for _, way := range []int64{0, 1, 7, 512, 100000} {
				had := uint64((off + way) * grain)
				gave := had + uint64(held*grain)
				makes(t, 0, (2*way+held)*grainNs, had, gave, off*grainNs, 2*way*grainNs)
			}
		}
	}
}

// P8.1, held against exact numbers.
func TestMakeAgainstPaper(t *testing.T) {
	check := func(sent, came int64, recv, xmit uint64) {
		off, took := paperMake(sent, came, recv, xmit)
		makes(t, sent, came, recv, xmit, off, took)
	}
	stamps := []uint64{0, 1, 5, grain, whole - 1, whole, 1<<63 - 1, 1 << 63, 1<<63 + 1, ahead(whole), ahead(5), ahead(1)}
	for _, sent := range ends() {
		for _, came := range ends() {
			for _, recv := range stamps {
				for _, xmit := range stamps {
					check(sent, came, recv, xmit)
				}
			}
		}
	}
	x := chance(8)
	for range 40000 {
		sent := x.spread()
		check(sent, x.spread(), x.next(), x.next())
		near := stampOf(exact(sent))
		check(sent, sent+x.spread(), near+uint64(x.spread()), near+uint64(x.spread()))
	}
}

// nows holds what Now tells against what it should; the other fields play no part.
func nows(t *testing.T, offset, was, slewed, want int64) {
	t.Helper()
	for _, other := range []int64{0, -1, 7, least, greatest} {
		s := api.Sample{Offset: offset, Slewed: was, Delay: other, At: -other}
		if n := Now(s, slewed); n != want {
			t.Errorf("Now(%+v, %d): %d, want %d", s, slewed, n, want)
		}
	}
}

// P8.2: what was slewed since then is no longer off.
func TestNow(t *testing.T) {
	for _, c := range []struct{ offset, was, slewed, want int64 }{
		{100, 7, 7, 100},
		{100, 7, 17, 90},
		{100, 7, 107, 0},
		{100, 7, 108, -1},
		{100, 7, 0, 107},
		{100, -7, -7, 100},
		{100, -7, -17, 110},
		{-100, 7, 17, -110},
		{-100, 7, -93, 0},
		{0, 0, 0, 0},
		{0, 0, 1, -1},
		{0, 1, 0, 1},
		{-5, 0, 0, -5},
	} {
		nows(t, c.offset, c.was, c.slewed, c.want)
	}
}

// P8.2: at the ends each difference stops by itself.
func TestNowAtTheEnds(t *testing.T) {
	for _, c := range []struct{ offset, was, slewed, want int64 }{
		{greatest, 0, 0, greatest},
		{greatest, 0, -1, greatest},
		{greatest, 0, 1, greatest - 1},
		{greatest, 0, greatest, 0},
		{greatest, 0, least, greatest},
		{least, 0, 0, least},
		{least, 0, 1, least},
		{least, 0, -1, least + 1},
		{least, 0, greatest, least},
		{least, 0, least, 0},
		{0, 0, greatest, least + 1},
		{0, 0, least, greatest},
		{-1, 0, least, greatest},
		{-2, 0, least, greatest - 1},
		{0, greatest, 0, greatest},
		{0, least, 0, least + 1},
		{0, greatest, greatest, 0},
		{5, least, least, 5},
		// The inner one stops: without that, the outer one would be another number.
		{greatest, least, greatest, 0},
		{greatest, least, 1, 0},
		{greatest, least, 0, 0},
		{greatest, least, -1, 0},
		{greatest, least, -2, 1},
		{0, least, greatest, least + 1},
		{-1, least, greatest, least},
		{-2, least, greatest, least},
		{least, greatest, least, 0},
		{least, greatest, -1, 0},
		{least, greatest, -2, 0},
		{least, greatest, 0, -1},
		{0, greatest, least, greatest},
		{-1, greatest, least, greatest},
		{-2, greatest, least, greatest - 1},
		{-10, greatest, least, greatest - 9},
	} {
		nows(t, c.offset, c.was, c.slewed, c.want)
	}
}

// P8.2, held against exact numbers.
func TestNowAgainstPaper(t *testing.T) {
	check := func(offset, was, slewed int64) {
		since := stopped(less(exact(slewed), exact(was)))
		want := stopped(less(exact(offset), exact(since)))
		if n := Now(api.Sample{Offset: offset, Slewed: was}, slewed); n != want {
			t.Errorf("offset %d, slewed %d, now %d: %d, want %d", offset, was, slewed, n, want)
		}
	}
	for _, offset := range ends() {
		for _, was := range ends() {
			for _, slewed := range ends() {
				check(offset, was, slewed)
			}
		}
	}
	x := chance(88)
	for range 40000 {
		check(x.spread(), x.spread(), x.spread())
	}
}

// freshIs holds what Fresh tells against what it should; the other fields play no part.
func freshIs(t *testing.T, at, h, life int64, want bool) {
	t.Helper()
	for _, other := range []int64{0, -1, 7, least, greatest} {
		s := api.Sample{Offset: other, Delay: -other, At: at, Slewed: other}
		if Fresh(s, h, life) != want {
			t.Errorf("Fresh(%+v, %d, %d): %v", s, h, life, !want)
		}
	}
}

// P8.2
func TestFresh(t *testing.T) {
	for _, at := range []int64{1000, 0, -1000, 1 << 61, least + 1, greatest - 60} {
		for _, life := range []int64{0, 1, 2, 50} {
			freshIs(t, at, at-1, life, false)
			freshIs(t, at, at, life, true)
			freshIs(t, at, at+life, life, true)
			freshIs(t, at, at+life+1, life, false)
			if life > 0 {
				freshIs(t, at, at+life-1, life, true)
			}
		}
		for _, life := range []int64{-1, -2, -50, least + 1, least} {
			freshIs(t, at, at-1, life, false)
			freshIs(t, at, at, life, false)
			freshIs(t, at, at+1, life, false)
			freshIs(t, at, least, life, false)
			freshIs(t, at, greatest, life, false)
		}
		// With the greatest life all that isn't ahead of it is fresh.
		freshIs(t, at, at-1, greatest, false)
		freshIs(t, at, at, greatest, true)
		freshIs(t, at, greatest, greatest, true)
		freshIs(t, at, least, greatest, false)
	}
}

// P8.2: readings at the ends: how old it is stops.
func TestFreshAtTheEnds(t *testing.T) {
	for _, c := range []struct {
		at, h, life int64
		want        bool
	}{
		{least, least, 0, true},
		{least, least, -1, false},
		{least, least + 1, 0, false},
		{least, least + 1, 1, true},
		{least, -1, greatest, true},
		{least, -1, greatest - 1, false},
		{least, -2, greatest - 1, true},
		{least, 0, greatest, true},
		{least, 0, greatest - 1, false},
		{least, greatest, greatest, true},
		{least, greatest, greatest - 1, false},
		{least, greatest, 0, false},
		{least, greatest, -1, false},
		{least, greatest, least, false},
		{-1, greatest, greatest, true},
		{-1, greatest, greatest - 1, false},
		{0, greatest, greatest, true},
		{0, greatest, greatest - 1, false},
		{1, greatest, greatest - 1, true},
		{greatest, greatest, 0, true},
		{greatest, greatest, greatest, true},
		{greatest, greatest, -1, false},
		{greatest, greatest - 1, greatest, false},
		{greatest, 0, greatest, false},
		{greatest, least, greatest, false},
		{greatest, least, least, false},
		{0, least, least, false},
		{0, -1, -1, false},
		{0, -1, least, false},
	} {
		freshIs(t, c.at, c.h, c.life, c.want)
	}
}

// P8.2, held against exact numbers.
func TestFreshAgainstPaper(t *testing.T) {
	check := func(at, h, life int64) {
		age := less(exact(h), exact(at))
		want := age.Sign() >= 0 && stopped(age) <= life
		if Fresh(api.Sample{At: at}, h, life) != want {
			t.Errorf("at %d, at the reading %d, for %d: %v", at, h, life, !want)
		}
	}
	for _, at := range ends() {
		for _, h := range ends() {
			for _, life := range ends() {
				check(at, h, life)
			}
		}
	}
	x := chance(888)
	for range 40000 {
		at, h := x.spread(), x.spread()
		check(at, h, x.spread())
		check(at, h, h-at)
		check(at, h, h-at-1)
	}
}

// betterIs holds what Better tells of both, turned too, against what it should; the other fields play no part.
func betterIs(t *testing.T, a, b api.Sample, want bool) {
	t.Helper()
	for _, other := range [][4]int64{{}, {1, 0, 0, 0}, {0, 1, 0, 0}, {0, 0, 1, 0}, {0, 0, 0, 1}, {least, greatest, greatest, least}, {greatest, least, least, greatest}} {
		a.Offset, b.Offset, a.Slewed, b.Slewed = other[0], other[1], other[2], other[3]
		if Better(a, b) != want {
			t.Errorf("Better(%+v, %+v): %v", a, b, !want)
		}
		if want && Better(b, a) {
			t.Errorf("%+v and %+v are both better than the other one", a, b)
		}
	}
}

// P8.2
func TestBetter(t *testing.T) {
	for _, c := range []struct {
		delay, at, thanDelay, thanAt int64
		want                         bool
	}{
		{3, 10, 5, 10, true},
		{5, 10, 3, 10, false},
		{4, 10, 5, 10, true},
		{5, 10, 4, 10, false},
		// How late it is counts only where the delay is the same.
		{3, 1, 5, 10, true},
		{3, 10, 5, 1, true},
		{5, 10, 3, 1, false},
		{5, 1, 3, 10, false},
		{5, 11, 5, 10, true},
		{5, 10, 5, 11, false},
		{5, 10, 5, 10, false},
		{0, 0, 0, 0, false},
		{-1, 0, 0, 0, true},
		{0, 0, -1, 0, false},
		{0, -1, 0, -2, true},
		{0, -2, 0, -1, false},
		{least, least, greatest, greatest, true},
		{greatest, greatest, least, least, false},
		{least, 0, least + 1, 0, true},
		{greatest - 1, 0, greatest, 0, true},
		{greatest, 0, greatest - 1, 0, false},
		{least, greatest, least, least, true},
		{least, least, least, greatest, false},
		{greatest, greatest, greatest, greatest - 1, true},
		{greatest, least, greatest, least + 1, false},
		{least, least, least, least, false},
		{greatest, greatest, greatest, greatest, false},
	} {
		betterIs(t, api.Sample{Delay: c.delay, At: c.at}, api.Sample{Delay: c.thanDelay, At: c.thanAt}, c.want)
	}
}

// crowd are samples of few delays and readings, so that many of them are the same in one or in both.
func crowd() []api.Sample {
	var out []api.Sample
	for i, delay := range []int64{least, -1, 0, 1, greatest} {
		for j, at := range []int64{least, -1, 0, 1, greatest} {
			out = append(out, api.Sample{Offset: int64(i - j), Delay: delay, At: at, Slewed: int64(j)})
			out = append(out, api.Sample{Offset: int64(j), Delay: delay, At: at, Slewed: int64(i)})
		}
	}
	return out
}

// P8.2: never both of two, none than itself, one of two that differ, and of three it goes on.
func TestBetterOrders(t *testing.T) {
	all := crowd()
	for _, a := range all {
		for _, b := range all {
			same := a.Delay == b.Delay && a.At == b.At
			if first, second := Better(a, b), Better(b, a); first && second || (first || second) == same {
				t.Errorf("%+v, %+v: %v and %v", a, b, first, second)
			}
			for _, c := range all {
				if Better(a, b) && Better(b, c) && !Better(a, c) {
					t.Errorf("%+v, %+v, %+v: it doesn't go on", a, b, c)
				}
			}
		}
	}
}

// Samples are compared by the method of the one that a rival embeds.
func TestRival(t *testing.T) {
	a, b := measured{Delay: 3, At: 1}, measured{Delay: 5, At: 2}
	r := rival{a}
	if !r.better(b) || r.better(a) || !r.measured.better(b) || (rival{b}).better(a) || r.measured != a {
		t.Error("a rival isn't compared as its sample")
	}
}

// journey is a query and its answer: the clock's time at the query, how far the clock is off, and how long the way there, the server, and the way back took.
type journey struct{ sent, off, there, held, back int64 }

// told is what Make tells of a journey.
func (j journey) told() (int64, int64) {
	had := sum(sum(exact(j.sent), exact(j.off)), exact(j.there))
	gave := sum(had, exact(j.held))
	return Make(j.sent, j.sent+j.there+j.held+j.back, stampOf(had), stampOf(gave))
}

// near tells whether all of a journey's times are less than 2^30 seconds apart, and the clock's are int64s.
func (j journey) near() bool {
	lo := min(0, j.off+j.there)
	hi := max(j.there+j.held+j.back, j.off+j.there+j.held)
	return hi-lo < apart && j.sent <= greatest-j.there-j.held-j.back
}

// tells holds what is told of a journey against P8.3.
func (j journey) tells(t *testing.T) {
	t.Helper()
	if !j.near() {
		t.Fatalf("%+v is too far", j)
	}
	off, took := j.told()
	wrong := max(off-j.off, j.off-off)
	if j.there == j.back && wrong > 4 {
		t.Errorf("%+v: %d off is told", j, off)
	}
	if 2*wrong > 8+j.there+j.back {
		t.Errorf("%+v: %d off is told, more than half of both ways wrong", j, off)
	}
	if slip := took - j.there - j.back; took < 0 || slip < -2 || slip > 2 {
		t.Errorf("%+v: it took %d", j, took)
	}
}

// beginnings are clock's times from which a journey may begin.
func beginnings() []int64 {
	return []int64{least, least + 1, -4294967296 * second, -1, 0, 1, 7, 2147483648*second - 3, 4294967296*second - 1, 1700000000*second + 123456789, greatest - apart}
}

// P8.3: ways of one length.
func TestSameWays(t *testing.T) {
	for _, sent := range beginnings() {
		for _, way := range []int64{0, 1, 2, 3, 4, 999, 1000000, 12345678901, 1000 * second} {
			for _, held := range []int64{0, 1, 5, 1000001, 77 * second} {
				both := 2*way + held
				for _, off := range []int64{0, 1, -1, 2, -2, 3, 1000, -1001, 5 * second, -5*second - 1, apart/2 - both, -apart/2 + both, apart - 1 - both, -apart + 1 + both} {
					journey{sent, off, way, held, way}.tells(t)
				}
			}
		}
	}
}

// P8.3: ways of two lengths, the whole of it on one of them too: there it is nearly half of both wrong.
func TestOtherWays(t *testing.T) {
	for _, sent := range beginnings() {
		for _, way := range []int64{1, 2, 5, 9, 1000001, 3 * second, 100000 * second, 1 << 28 * second} {
			for _, off := range []int64{0, 1, -1, 1000003, -7*second - 1, 1 << 28 * second, -1 << 28 * second, 1<<29*second - 1, -1<<29*second + 1} {
				journey{sent, off, way, 3, 0}.tells(t)
				journey{sent, off, 0, 3, way}.tells(t)
				journey{sent, off, way, 0, way / 3}.tells(t)
				journey{sent, off, way / 7, second, way}.tells(t)
			}
			there, _ := journey{sent, 1000, way, 0, 0}.told()
			back, _ := journey{sent, 1000, 0, 0, way}.told()
			if there < 1000+way/2-4 || back > 1000-way/2+4 {
				t.Errorf("a way of %d alone: %d there, %d back", way, there, back)
			}
		}
	}
}

// P8.3: just less than 2^30 seconds, by the clock's being off, by the ways, and by the server's having it.
func TestNearlyTooFar(t *testing.T) {
	const most = apart - 1
	for _, sent := range beginnings() {
		for _, j := range []journey{
			{sent, most, 0, 0, 0},
			{sent, -most, 0, 0, 0},
			{sent, most - 10, 5, 0, 5},
			{sent, -most + 10, 5, 0, 5},
			{sent, 0, 0, most, 0},
			{sent, 0, most / 2, 0, most / 2},
			{sent, 0, most, 0, 0},
			{sent, 0, 0, 0, most},
			{sent, most / 2, most / 4, most / 4, 0},
			{sent, -most / 2, most / 4, 0, most / 4},
			{sent, -most / 4, most / 4, most / 4, most / 4},
			{sent, most / 4, most / 4, most / 4, most / 4},
			{sent, -most, most, 0, 0},
			{sent, most, 0, 0, most},
		} {
			j.tells(t)
		}
	}
}

// P8.3: journeys of all sizes.
func TestManyJourneys(t *testing.T) {
	x := chance(8888)
	tried := 0
	for range 60000 {
		j := journey{x.spread(), x.way(apart), x.way(apart), x.way(apart), x.way(apart)}
		if x.next()%2 == 0 {
			j.off = -j.off
		}
		if x.next()%2 == 0 {
			j.back = j.there
		}
		if j.near() {
			tried++
			j.tells(t)
		}
	}
	if tried < 30000 {
		t.Error("too few journeys:", tried)
	}
}

// Calls may be made by many goroutines at a time, and hang on what they are handed alone.
func TestManyGoroutines(t *testing.T) {
	var wait sync.WaitGroup
	for i := range int64(16) {
		wait.Go(func() {
			for n := range int64(500) {
				off, took := Make(n*second, (n+2)*second, uint64(n+1+i)*whole, uint64(n+1+i)*whole)
				s := api.Sample{Offset: off, Delay: took, At: n, Slewed: i}
				if off != i*second || took != 2*second || Now(s, i+n) != off-n || !Fresh(s, n+i, i) || Better(s, s) {
					t.Error(i, n, off, took)
				}
			}
		})
	}
	wait.Wait()
}
