package slew

import (
	"math"
	"math/big"
	"math/bits"
	"sync"
	"testing"

	"chronobate/api"
)

const (
	least    = math.MinInt64
	greatest = math.MaxInt64
	far      = 1 << 61
)

// told is what a clock tells at a reading.
type told struct{ time, left, slewed int64 }

// made is a new clock that may be.
func made(t *testing.T, h, c int64, ppm int) *Clock {
	t.Helper()
	k, e := New(h, c, ppm)
	if e != api.OK || k == nil {
		t.Fatalf("New(%d, %d, %d): %v, %v", h, c, ppm, k, e)
	}
	return k
}

// adjust is an Adjust that must be taken.
func adjust(t *testing.T, k *Clock, h, by int64) {
	t.Helper()
	if e := k.Adjust(h, by); e != api.OK || k.Base() != h {
		t.Fatalf("Adjust(%d, %d): %v, base %d", h, by, e, k.Base())
	}
}

// all asks a clock for all that it tells at a reading; its three calls must tell one error.
func all(t *testing.T, k *Clock, h int64) (told, api.Errno) {
	t.Helper()
	c, e := k.Read(h)
	left, f := k.Left(h)
	slewed, g := k.Slewed(h)
	if e != f || e != g {
		t.Fatalf("at %d: errors %v, %v, %v", h, e, f, g)
	}
	return told{c, left, slewed}, e
}

// tells holds what a clock tells at a reading against what it should.
func tells(t *testing.T, k *Clock, h int64, want told) {
	t.Helper()
	if got, e := all(t, k, h); got != want || e != api.OK {
		t.Errorf("at %d: %+v, %v, want %+v", h, got, e, want)
	}
}

// refuses holds all four calls of a reading against an error, with 0 beside it.
func refuses(t *testing.T, k *Clock, h int64, want api.Errno) {
	t.Helper()
	if got, e := all(t, k, h); got != (told{}) || e != want {
		t.Errorf("at %d: %+v, %v, want nothing and %v", h, got, e, want)
	}
	base := k.Base()
	if e := k.Adjust(h, 5); e != want || k.Base() != base {
		t.Errorf("Adjust(%d, 5): %v, base %d, want %v, base %d", h, e, k.Base(), want, base)
	}
}

// paper is a clock as the chapter's head tells it, in exact numbers.
type paper struct {
	rate                     int64
	base, time, left, slewed *big.Int
}

func newPaper(h, c int64, ppm int) *paper {
	return &paper{int64(ppm), big.NewInt(h), big.NewInt(c), new(big.Int), new(big.Int)}
}

// corrected is what is corrected from the base to a reading.
func (p *paper) corrected(h int64) *big.Int {
	d := new(big.Int).Sub(big.NewInt(h), p.base)
	by := d.Mul(d, big.NewInt(p.rate))
	by.Quo(by, big.NewInt(1000000))
	if size := new(big.Int).Abs(p.left); by.Cmp(size) > 0 {
		by = size
	}
	if p.left.Sign() < 0 {
		by.Neg(by)
	}
	return by
}

func (p *paper) at(t *testing.T, h int64) told {
	t.Helper()
	by := p.corrected(h)
	time := new(big.Int).Sub(big.NewInt(h), p.base)
	time.Add(time, p.time).Add(time, by)
	left := new(big.Int).Sub(p.left, by)
	slewed := new(big.Int).Add(p.slewed, by)
	if !time.IsInt64() || !left.IsInt64() || !slewed.IsInt64() {
		t.Fatalf("at %d: %v, %v, %v are no int64s", h, time, left, slewed)
	}
	return told{time.Int64(), left.Int64(), slewed.Int64()}
}

func (p *paper) adjust(t *testing.T, h, by int64) {
	t.Helper()
	now := p.at(t, h)
	p.base, p.time, p.slewed = big.NewInt(h), big.NewInt(now.time), big.NewInt(now.slewed)
	p.left = big.NewInt(min(max(by, -far), far))
}

// chance are numbers that look like chance, and are the same each time.
type chance uint64

func (x *chance) next() uint64 {
	*x ^= *x << 13
	*x ^= *x >> 7
	*x ^= *x << 17
	return uint64(*x)
}

// below is a number from 0 to n - 1.
func (x *chance) below(n int64) int64 { return int64(x.next() % uint64(n)) }

// spread is a number of any size.
func (x *chance) spread() int64 { return int64(x.next()) >> (x.next() % 64) }

// way is a way of any size, at most n.
func (x *chance) way(n int64) int64 { return int64(x.next()>>(x.next()%64)) & math.MaxInt64 % (n + 1) }

// P7.1
func TestNewRefuses(t *testing.T) {
	hs := map[int64]bool{least: false, -1: false, 0: true, 1: true, 1000: true, api.MaxHard - 1: true, api.MaxHard: true, api.MaxHard + 1: false, greatest: false}
	cs := map[int64]bool{least: false, -far - 1: false, -far: true, -far + 1: true, -1: true, 0: true, 1: true, far - 1: true, far: true, far + 1: false, greatest: false}
	ppms := map[int]bool{math.MinInt: false, -500: false, -1: false, 0: false, 1: true, 2: true, 499: true, 500: true, 501: false, math.MaxInt: false, 1<<32 + 1: false}
	for h, hMay := range hs {
		for c, cMay := range cs {
			for ppm, ppmMay := range ppms {
				k, e := New(h, c, ppm)
				if hMay && cMay && ppmMay {
					if k == nil || e != api.OK {
						t.Errorf("New(%d, %d, %d): %v, %v", h, c, ppm, k, e)
					}
				} else if k != nil || e != api.ErrRange {
					t.Errorf("New(%d, %d, %d): %v, %v, want nil, ErrRange", h, c, ppm, k, e)
				}
			}
		}
	}
}

// P7.1
func TestNewTells(t *testing.T) {
	for _, h := range []int64{0, 1, 1000, api.MaxHard - 1, api.MaxHard} {
		for _, c := range []int64{-far, -far + 1, -1, 0, 1, 5000, far - 1, far} {
			for _, ppm := range []int{1, 3, 499, 500} {
				k := made(t, h, c, ppm)
				if k.Base() != h {
					t.Errorf("base %d, want %d", k.Base(), h)
				}
				tells(t, k, h, told{c, 0, 0})
				tells(t, k, api.MaxHard, told{c + api.MaxHard - h, 0, 0})
			}
		}
	}
}

// P7.2
func TestReadings(t *testing.T) {
	const base = 1000000
	for _, by := range []int64{0, 7, -7, far, -far} {
		k := made(t, base, 50, 500)
		adjust(t, k, base, by)
		for _, h := range []int64{least, least + 1, -base, -1, 0, 1, base - 2000, base - 2, base - 1} {
			refuses(t, k, h, api.ErrOrder)
		}
		for _, h := range []int64{api.MaxHard + 1, api.MaxHard + 2, greatest - 1, greatest} {
			refuses(t, k, h, api.ErrRange)
		}
		tells(t, k, base, told{50, by, 0})
		tells(t, k, base+1, told{51, by, 0})
		most := min(max(by, -2305843009213193), 2305843009213193) // the floor of (MaxHard - 1000000) / 2000
		tells(t, k, api.MaxHard-1, told{api.MaxHard - 1 - base + 50 + most, by - most, most})
		tells(t, k, api.MaxHard, told{api.MaxHard - base + 50 + most, by - most, most})
	}
}

// P7.2, P7.3
func TestReadingsAtTheCountersEnds(t *testing.T) {
	low := made(t, 0, 9, 500)
	tells(t, low, 0, told{9, 0, 0})
	refuses(t, low, -1, api.ErrOrder)
	refuses(t, low, least, api.ErrOrder)
	high := made(t, api.MaxHard, 9, 500)
	tells(t, high, api.MaxHard, told{9, 0, 0})
	refuses(t, high, api.MaxHard-1, api.ErrOrder)
	refuses(t, high, 0, api.ErrOrder)
	refuses(t, high, -1, api.ErrOrder)
	refuses(t, high, api.MaxHard+1, api.ErrRange)
	refuses(t, high, greatest, api.ErrRange)
	adjust(t, high, api.MaxHard, 4)
	tells(t, high, api.MaxHard, told{9, 4, 0})
}

// P7.2: what is asked changes nothing, in whatever order.
func TestAskingChangesNothing(t *testing.T) {
	k, p := made(t, 10, 20, 3), newPaper(10, 20, 3)
	adjust(t, k, 15, -100)
	p.adjust(t, 15, -100)
	readings := []int64{api.MaxHard, 15, 33333349, 33333348, 15, greatest, 14, -1, 1 << 40, 400000, api.MaxHard, 333349, 333348, 16}
	was := *k
	for round := range 3 {
		for i := range readings {
			h := readings[(i*(2*round+1))%len(readings)]
			switch {
			case h > api.MaxHard:
				refuses(t, k, h, api.ErrRange)
			case h < 15:
				refuses(t, k, h, api.ErrOrder)
			default:
				tells(t, k, h, p.at(t, h))
				tells(t, k, h, p.at(t, h))
			}
			if k.Base() != 15 || *k != was {
				t.Fatalf("behind %d the clock is %+v, was %+v", h, *k, was)
			}
		}
	}
}

// P7.2: the first reading at which n are corrected is the first one whose product has n whole millions.
func TestSteps(t *testing.T) {
	for _, c := range []struct {
		ppm int
		d   int64 // the first way of n
		n   int64
	}{
		{1, 1000000, 1}, {1, 2000000, 2}, {1, 3000000, 3}, {1, 1000000000000, 1000000}, {1, 4611686018426000000, 4611686018426}, {1, 4611686018427000000, 4611686018427},
		{3, 333334, 1}, {3, 666667, 2}, {3, 1000000, 3}, {3, 1333334, 4}, {3, 333333333334, 1000000}, {3, 4611686018427000000, 13835058055281}, {3, 4611686018427333334, 13835058055282},
		{7, 142858, 1}, {7, 285715, 2}, {7, 1000000, 7},
		{499, 2005, 1}, {499, 4009, 2}, {499, 1000000, 499},
		{500, 2000, 1}, {500, 4000, 2}, {500, 6000, 3}, {500, 2000000000, 1000000}, {500, 4611686018427384000, 2305843009213692}, {500, 4611686018427386000, 2305843009213693},
	} {
		for _, by := range []int64{far, far - 1, c.n + 1, c.n} {
			for _, sign := range []int64{1, -1} {
				k := made(t, 0, -5, c.ppm)
				adjust(t, k, 0, sign*by)
				tells(t, k, c.d-1, told{-5 + c.d - 1 + sign*(c.n-1), sign * (by - c.n + 1), sign * (c.n - 1)})
				tells(t, k, c.d, told{-5 + c.d + sign*c.n, sign * (by - c.n), sign * c.n})
				tells(t, k, c.d+1, told{-5 + c.d + 1 + sign*c.n, sign * (by - c.n), sign * c.n})
			}
		}
		k := made(t, 0, -5, c.ppm)
		adjust(t, k, 0, 0)
		for _, d := range []int64{c.d - 1, c.d, c.d + 1, api.MaxHard} {
			tells(t, k, d, told{-5 + d, 0, 0})
		}
	}
}

// P7.2: the way counts from the base, not from the counter's beginning.
func TestStepsFromABase(t *testing.T) {
	for _, base := range []int64{1, 999, 1999, 2001, 123456789, 1 << 61} {
		k := made(t, base, 0, 500)
		adjust(t, k, base, 1000)
		for n := int64(1); n <= 1000; n++ {
			tells(t, k, base+2000*n-1, told{2000*n - 1 + n - 1, 1000 - n + 1, n - 1})
			tells(t, k, base+2000*n, told{2000*n + n, 1000 - n, n})
		}
	}
}

// P7.2: it is corrected no more than there is.
func TestAllOfIt(t *testing.T) {
	for _, c := range []struct {
		ppm  int
		by   int64
		d    int64 // the first way on which all is corrected
		next int64 // the first way on which one more would be
	}{
		{500, 1, 2000, 4000}, {500, 3, 6000, 8000}, {500, 1000000, 2000000000, 2000002000}, {500, 10 * api.Second, 20000 * api.Second, 20000*api.Second + 2000},
		{3, 1, 333334, 666667}, {3, 2, 666667, 1000000}, {3, 1000001, 333333666667, 333334000000},
		{1, 1, 1000000, 2000000}, {1, 4611686018426, 4611686018426000000, 4611686018427000000},
	} {
		for _, sign := range []int64{1, -1} {
			k := made(t, 0, 0, c.ppm)
			adjust(t, k, 0, sign*c.by)
			tells(t, k, c.d-1, told{c.d - 1 + sign*(c.by-1), sign, sign * (c.by - 1)})
			for _, d := range []int64{c.d, c.d + 1, c.next - 1, c.next, c.next + 1, api.MaxHard - 1, api.MaxHard} {
				tells(t, k, d, told{d + sign*c.by, 0, sign * c.by})
			}
		}
	}
}

// P7.2: on the whole counter.
func TestWholeCounter(t *testing.T) {
	for ppm, n := range map[int]int64{1: 4611686018427, 2: 9223372036854, 3: 13835058055282, 499: 2301231323195266, 500: 2305843009213693} {
		for _, c := range []int64{-far, 0, far} {
			for _, sign := range []int64{1, -1} {
				k := made(t, 0, c, ppm)
				adjust(t, k, 0, sign*far)
				tells(t, k, api.MaxHard, told{c + api.MaxHard + sign*n, sign * (far - n), sign * n})
			}
		}
	}
}

// P7.3
func TestAdjustKeepsBetween(t *testing.T) {
	for by, want := range map[int64]int64{least: -far, least + 1: -far, -far - 1: -far, -far: -far, -far + 1: -far + 1, -1: -1, 0: 0, 1: 1, far - 1: far - 1, far: far, far + 1: far, greatest - 1: far, greatest: far} {
		k := made(t, 100, 7, 500)
		adjust(t, k, 100, by)
		tells(t, k, 100, told{7, want, 0})
		k = made(t, 100, 7, 500)
		adjust(t, k, 4100, by)
		tells(t, k, 4100, told{4007, want, 0})
		step := min(max(want, -1), 1)
		tells(t, k, 6100, told{6007 + step, want - step, step})
	}
}

// P7.3: a refused one leaves all as it was, the base too.
func TestAdjustRefused(t *testing.T) {
	k, same := made(t, 3000, 1, 500), made(t, 3000, 1, 500)
	adjust(t, k, 9000, -55)
	adjust(t, same, 9000, -55)
	for h, want := range map[int64]api.Errno{least: api.ErrOrder, -1: api.ErrOrder, 0: api.ErrOrder, 3000: api.ErrOrder, 8999: api.ErrOrder, api.MaxHard + 1: api.ErrRange, greatest: api.ErrRange} {
		for _, by := range []int64{least, -56, -55, 0, 9, greatest} {
			if e := k.Adjust(h, by); e != want {
				t.Errorf("Adjust(%d, %d): %v, want %v", h, by, e, want)
			}
			if k.Base() != 9000 || *k != *same {
				t.Fatalf("behind Adjust(%d, %d): %+v", h, by, *k)
			}
			for _, h := range []int64{9000, 10999, 11000, 50000, 119000, api.MaxHard} {
				want, _ := all(t, same, h)
				tells(t, k, h, want)
			}
		}
	}
}

// P7.3: at the base itself, and twice at one reading.
func TestAdjustAtTheBase(t *testing.T) {
	k := made(t, 500, 60, 500)
	adjust(t, k, 500, 8)
	tells(t, k, 500, told{60, 8, 0})
	adjust(t, k, 500, -9)
	tells(t, k, 500, told{60, -9, 0})
	tells(t, k, 4500, told{4058, -7, -2})
	adjust(t, k, 4500, 70)
	tells(t, k, 4500, told{4058, 70, -2})
	adjust(t, k, 4500, 70)
	tells(t, k, 4500, told{4058, 70, -2})
	adjust(t, k, 4500, 0)
	tells(t, k, 4500, told{4058, 0, -2})
	tells(t, k, 9500, told{9058, 0, -2})
}

// P7.3: what was left till then is forgotten.
func TestAdjustForgets(t *testing.T) {
	for _, old := range []int64{1000, -1000, far, -far, 2, -2} {
		for _, by := range []int64{0, 1, -1, 5, -5} {
			k := made(t, 0, 0, 500)
			adjust(t, k, 0, old)
			adjust(t, k, 4000, by)
			was := min(max(old, -2), 2)
			tells(t, k, 4000, told{4000 + was, by, was})
			tells(t, k, 1000000, told{1000000 + was + by, 0, was + by})
		}
	}
}

// P7.3: what was corrected in all goes on, with corrections of both signs.
func TestSlewedGoesOn(t *testing.T) {
	k := made(t, 0, 0, 500)
	for i, s := range []struct {
		h, by  int64
		slewed int64 // at h
	}{
		{0, 10, 0}, {2000, 10, 1}, {6000, 1, 3}, {20000, -4, 4}, {26000, -4, 1}, {28000, -100, 0}, {30000, -100, -1}, {40000, 3, -6}, {50000, 0, -3}, {60000, 0, -3}, {60000, 50, -3}, {100000, -50, 17}, {300000, 1, -33}, {api.MaxHard, 9, -32},
	} {
		if got, e := k.Slewed(s.h); got != s.slewed || e != api.OK {
			t.Errorf("%d: Slewed(%d): %d, %v, want %d", i, s.h, got, e, s.slewed)
		}
		adjust(t, k, s.h, s.by)
		tells(t, k, s.h, told{s.h + s.slewed, s.by, s.slewed})
	}
}

// P7.3: a way that is cut by adjustments is corrected piece by piece: of each piece the floor.
func TestManyAdjustments(t *testing.T) {
	for _, c := range []struct {
		ppm  int
		each int64
		n    int64 // what is corrected on each piece
	}{{500, 1, 0}, {500, 1999, 0}, {500, 2000, 1}, {500, 2001, 1}, {500, 3999, 1}, {500, 4000, 2}, {3, 333333, 0}, {3, 333334, 1}, {3, 666666, 1}, {1, 999999, 0}, {1, 1000000, 1}} {
		for _, sign := range []int64{1, -1} {
			k := made(t, 0, 0, c.ppm)
			for i := range int64(1000) {
				adjust(t, k, i*c.each, sign*1000)
				tells(t, k, i*c.each, told{i*c.each + sign*i*c.n, sign * 1000, sign * i * c.n})
			}
		}
	}
}

// P7.2, P7.3: clocks that began at either end, far behind their base.
func TestFarBehind(t *testing.T) {
	const n = 2305843009213693 // the most that can be corrected: the floor of MaxHard / 2000
	for _, c := range []struct{ h, c, by, time, left, slewed int64 }{
		{0, -far, least, -far + api.MaxHard - n, -far + n, -n},
		{0, -far, greatest, -far + api.MaxHard + n, far - n, n},
		{0, far, least, far + api.MaxHard - n, -far + n, -n},
		{0, far, greatest, far + api.MaxHard + n, far - n, n},
		{api.MaxHard, -far, least, -far, -far, 0},
		{api.MaxHard, far, greatest, far, far, 0},
		{api.MaxHard - 2000, far, greatest, far + 2001, far - 1, 1},
		{api.MaxHard - 2000, -far, least, -far + 1999, -far + 1, -1},
	} {
		k := made(t, c.h, c.c, 500)
		adjust(t, k, c.h, c.by)
		tells(t, k, api.MaxHard, told{c.time, c.left, c.slewed})
		adjust(t, k, api.MaxHard, 1)
		if got, e := k.Read(api.MaxHard); got != c.time || e != api.OK {
			t.Errorf("%+v: %d, %v", c, got, e)
		}
		if got, e := k.Slewed(api.MaxHard); got != c.slewed || e != api.OK {
			t.Errorf("%+v: %d, %v", c, got, e)
		}
	}
}

// The line in brackets: of a nil clock 0, ErrNil, whatever else is wrong.
func TestNil(t *testing.T) {
	var k *Clock
	for _, h := range []int64{least, -1, 0, 1, api.MaxHard, api.MaxHard + 1, greatest} {
		refuses(t, k, h, api.ErrNil)
		for _, by := range []int64{least, -1, 0, 1, greatest} {
			if e := k.Adjust(h, by); e != api.ErrNil {
				t.Errorf("Adjust(%d, %d): %v", h, by, e)
			}
		}
	}
	if k.Base() != 0 {
		t.Error(k.Base())
	}
}

// P7.1 to P7.3, held against exact numbers.
func TestAgainstPaper(t *testing.T) {
	x := chance(7)
	for range 3000 {
		h, c, ppm := x.way(api.MaxHard), min(max(x.spread(), -far), far), int(1+x.below(api.MaxSlew))
		k, p := made(t, h, c, ppm), newPaper(h, c, ppm)
		for range 20 {
			for range 4 {
				later := h + x.way(api.MaxHard-h)
				tells(t, k, later, p.at(t, later))
			}
			h += x.way(api.MaxHard-h) >> x.below(20)
			by := x.spread()
			adjust(t, k, h, by)
			p.adjust(t, h, by)
			tells(t, k, h, p.at(t, h))
		}
	}
}

// noted is a time that a clock told at a reading.
type noted struct{ h, time int64 }

// keepsBounds holds any two of them against P7.4's bounds; they stand in order.
func keepsBounds(t *testing.T, ppm int, notes []noted) {
	t.Helper()
	for i, a := range notes {
		for _, b := range notes[i:] {
			d := b.h - a.h
			high, low := bits.Mul64(uint64(d), uint64(ppm))
			quo, _ := bits.Div64(high, low, 1000000)
			lo, hi := d-int64(quo)-1, d+int64(quo)+1
			went := b.time - a.time
			if went < lo || went > hi || went < 0 || d >= 2 && went < 1 {
				t.Fatalf("rate %d: from %+v to %+v it went %d, not from %d to %d", ppm, a, b, went, lo, hi)
			}
		}
	}
}

// P7.4, P3: whatever is adjusted between.
func TestBounds(t *testing.T) {
	x := chance(99)
	longest := []int64{3, 100, 2001, 5000, 1000000, api.Second, 3000 * api.Second, 1 << 50, 1 << 56}
	for round := range 600 {
		ppm := []int{1, 3, 100, 499, 500}[round%5]
		h := x.below(1 << 60)
		k := made(t, h, x.below(far), ppm)
		var notes []noted
		for range 60 {
			h += x.way(longest[x.below(int64(len(longest)))])
			c, e := k.Read(h)
			if e != api.OK {
				t.Fatal(e)
			}
			notes = append(notes, noted{h, c})
			if x.below(3) > 0 {
				adjust(t, k, h, x.spread())
				c, _ := k.Read(h)
				notes = append(notes, noted{h, c})
			}
		}
		keepsBounds(t, ppm, notes)
	}
}

// P7.4: many adjustments, each a little behind the one ahead, all of one sign or of both.
func TestBoundsOfManyAdjustments(t *testing.T) {
	for _, each := range []int64{0, 1, 2, 7, 999, 1999, 2000, 2001, 3999, 4001} {
		for _, bys := range [][]int64{{greatest}, {least}, {greatest, least}, {1, -1}, {1}, {-1}, {0, 5}, {3, 3, -3}} {
			k := made(t, 777, -777, 500)
			var notes []noted
			for i := range int64(300) {
				h := 777 + i*each
				c, _ := k.Read(h)
				notes = append(notes, noted{h, c})
				adjust(t, k, h, bys[i%int64(len(bys))])
				for _, on := range []int64{each / 2, each - 1} {
					if c, e := k.Read(h + on); e == api.OK {
						notes = append(notes, noted{h + on, c})
					}
				}
			}
			keepsBounds(t, 500, notes)
		}
	}
}

// P7.4: at every single reading of a way, and both bounds are reached.
func TestBoundsAtEachReading(t *testing.T) {
	for _, by := range []int64{greatest, least, 2, -2} {
		k := made(t, 0, 0, 500)
		adjust(t, k, 0, by)
		var notes []noted
		for h := range int64(4100) {
			c, e := k.Read(h)
			if e != api.OK {
				t.Fatal(e)
			}
			notes = append(notes, noted{h, c})
		}
		keepsBounds(t, 500, notes)
		sign := min(max(by, -1), 1)
		if went := notes[2000].time - notes[1999].time; went != 1+sign {
			t.Errorf("it went %d at its step, want %d", went, 1+sign)
		}
		if went := notes[2001].time - notes[1999].time; went != 2+sign {
			t.Errorf("it went %d on two readings, want %d", went, 2+sign)
		}
	}
}

// P2: two clocks have nothing to do with one another.
func TestTwoClocks(t *testing.T) {
	a, b := made(t, 0, 10, 500), made(t, 0, 10, 500)
	adjust(t, a, 4000, 100)
	if b.Base() != 0 {
		t.Error(b.Base())
	}
	tells(t, b, 10000, told{10010, 0, 0})
	adjust(t, b, 2000, -100)
	if a.Base() != 4000 {
		t.Error(a.Base())
	}
	tells(t, a, 8000, told{8012, 98, 2})
	tells(t, b, 8000, told{8007, -97, -3})
	other := made(t, 0, 10, 1)
	tells(t, a, 8000, told{8012, 98, 2})
	adjust(t, other, 0, 100)
	tells(t, other, 1000000, told{1000011, 99, 1})
}

// P2: many goroutines, each with a clock of its own.
func TestManyGoroutines(t *testing.T) {
	var wait sync.WaitGroup
	for i := range 16 {
		wait.Go(func() {
			k, e := New(int64(i), int64(-i), 500)
			if e != api.OK {
				t.Error(i, e)
				return
			}
			for n := range int64(500) {
				h := int64(i) + n*2000
				c, e := k.Read(h)
				if f := k.Adjust(h, 5); c != 2001*n-int64(i) || e != api.OK || f != api.OK {
					t.Error(i, n, c, e, f)
				}
			}
		})
	}
	wait.Wait()
}

// What a clock is at a reading is told by value: to ask it changes nothing of it.
func TestMoment(t *testing.T) {
	m := moment{h: 10, c: 20, left: -3, all: 4}
	if moment.time(m) != 20 || moment.rest(m) != -3 || moment.total(m) != 4 {
		t.Error(moment.time(m), moment.rest(m), moment.total(m))
	}
	if got := m.after(4000, 500); got != (moment{h: 4010, c: 4018, left: -1, all: 2}) {
		t.Errorf("%+v", got)
	}
	if m != (moment{h: 10, c: 20, left: -3, all: 4}) {
		t.Errorf("%+v", m)
	}
}

// The chapter's example, and the fifth of the whole.
func TestExamples(t *testing.T) {
	k := made(t, 0, 0, 500)
	adjust(t, k, 0, 3)
	tells(t, k, 2000, told{2001, 2, 1})
	tells(t, k, 4000, told{4002, 1, 2})
	tells(t, k, 10000, told{10003, 0, 3})
}

// The tenth of the whole: a clock that is 10 seconds behind catches up by half a millisecond in a second, at most.
func TestTenSecondsBehind(t *testing.T) {
	k := made(t, 0, 0, 500)
	adjust(t, k, 0, 10*api.Second)
	ahead := int64(0)
	for s := int64(1); s <= 20010; s++ {
		c, e := k.Read(s * api.Second)
		caught := c - ahead - api.Second
		want := int64(api.Milli / 2)
		if s > 20000 {
			want = 0
		}
		if e != api.OK || caught != want {
			t.Fatalf("in second %d it caught up %d, %v, want %d", s, caught, e, want)
		}
		ahead = c
	}
	tells(t, k, 20000*api.Second-1, told{20010*api.Second - 2, 1, 10*api.Second - 1})
	tells(t, k, 20000*api.Second, told{20010 * api.Second, 0, 10 * api.Second})
}
