package fresh

import (
	"math"
	"math/big"
	"slices"
	"sync"
	"testing"

	"chronobate/api"
)

const (
	least    = math.MinInt64
	greatest = math.MaxInt64
	keep     = 8 // how many samples a store keeps
)

// chance are numbers that look like chance, and are the same each time.
type chance uint64

func (x *chance) next() uint64 {
	*x ^= *x << 13
	*x ^= *x >> 7
	*x ^= *x << 17
	return uint64(*x)
}

// spread is a number of any size.
func (x *chance) spread() int64 { return int64(x.next()) >> (x.next() % 64) }

// of is one of a list's numbers.
func (x *chance) of(l ...int64) int64 { return l[x.next()%uint64(len(l))] }

// small is a number from 0 on, less than n.
func (x *chance) small(n int64) int64 { return int64(x.next() % uint64(n)) }

// ends are numbers at the ends of int64, round 0, and at those at which two of them leave it.
func ends() []int64 {
	return []int64{least, least + 1, -1 << 62, -1, 0, 1, 1 << 62, greatest - 1, greatest}
}

// minus is a - b, reckoned exactly, and then stopped at the ends.
func minus(a, b int64) int64 {
	n := new(big.Int).Sub(big.NewInt(a), big.NewInt(b))
	if n.IsInt64() {
		return n.Int64()
	}
	if n.Sign() < 0 {
		return least
	}
	return greatest
}

// look is what Best is asked with.
type look struct{ h, life, slewed int64 }

// sees tells by the document's words whether a sample is fresh.
func (l look) sees(x api.Sample) bool { return x.At <= l.h && minus(l.h, x.At) <= l.life }

// ofThese are those of a list that are fresh.
func (l look) ofThese(kept []api.Sample) []api.Sample {
	var out []api.Sample
	for _, x := range kept {
		if l.sees(x) {
			out = append(out, x)
		}
	}
	return out
}

// best is what Best must tell of what is kept: from the last one back, the first one than which none is better.
func (l look) best(kept []api.Sample) (api.Sample, int64, bool) {
	fresh := l.ofThese(kept)
	for _, x := range slices.Backward(fresh) {
		better := func(y api.Sample) bool { return y.Delay < x.Delay || y.Delay == x.Delay && y.At > x.At }
		if !slices.ContainsFunc(fresh, better) {
			return x, minus(x.Offset, minus(l.slewed, x.Slewed)), true
		}
	}
	return api.Sample{}, 0, false
}

// looks see none, few, many and all of samples that are from 0 on.
func looks() []look {
	return []look{{}, {0, 0, 7}, {100, greatest, 0}, {100, 50, 5}, {20, 5, -5}, {20, 0, 1}, {7, 100, 0}, {greatest, greatest, greatest}, {least, greatest, least}, {100, -1, 3}, {100, least, 3}, {greatest, 9, 0}, {-1, 100, 9}}
}

// add are Adds that must be taken.
func add(t *testing.T, s *Store, l ...api.Sample) {
	t.Helper()
	for _, x := range l {
		if e := s.Add(x); e != api.OK {
			t.Fatalf("Add(%+v): %v", x, e)
		}
	}
}

// stored is a store to which samples were added.
func stored(t *testing.T, l ...api.Sample) *Store {
	t.Helper()
	s := New()
	if s == nil {
		t.Fatal("New: nil")
	}
	add(t, s, l...)
	return s
}

// end are the last samples of a list, as many as are kept.
func end(l []api.Sample) []api.Sample { return l[max(0, len(l)-keep):] }

// tells holds all that a store tells against what it should.
func tells(t *testing.T, s *Store, want []api.Sample) {
	t.Helper()
	tellsAt(t, s, want, looks()...)
}

// tellsAt is tells, with what Best is asked.
func tellsAt(t *testing.T, s *Store, want []api.Sample, ways ...look) {
	t.Helper()
	// Twice: asking changes nothing.
	for range 2 {
		if all := s.All(); !slices.Equal(all, want) {
			t.Fatalf("All: %+v, want %+v", all, want)
		}
		for _, l := range ways {
			x, off, ok := l.best(want)
			bestIs(t, s, l, x, off, ok)
		}
	}
}

// bestIs holds what Best tells against what it should.
func bestIs(t *testing.T, s *Store, l look, x api.Sample, off int64, ok bool) {
	t.Helper()
	if b, o, k := s.Best(l.h, l.life, l.slewed); b != x || o != off || k != ok {
		t.Fatalf("Best(%d, %d, %d) of %+v: %+v, %d, %v, want %+v, %d, %v", l.h, l.life, l.slewed, s.All(), b, o, k, x, off, ok)
	}
}

// noneIs holds Best against none's being fresh.
func noneIs(t *testing.T, s *Store, l look) {
	t.Helper()
	bestIs(t, s, l, api.Sample{}, 0, false)
}

// series are n samples that come one behind the other, of which no two are the same; their delays aren't in order.
func series(n int) []api.Sample {
	var out []api.Sample
	for i := range int64(n) {
		out = append(out, api.Sample{Offset: 1000 + i, Delay: (i*37 + 11) % 17, At: 2 * i, Slewed: 3*i - 7})
	}
	return out
}

// amounts are how many samples leave a store empty, partly full, full, just gone round, and gone round often.
func amounts() []int {
	return []int{0, 1, 2, keep / 2, keep - 1, keep, keep + 1, 2*keep - 1, 2 * keep, 2*keep + 1, 7*keep + 3}
}

// The document's limit.
func TestKeep(t *testing.T) {
	if keep != api.MaxKeep {
		t.Error(api.MaxKeep)
	}
}

// P10.1, P10.2: a new store.
func TestNew(t *testing.T) {
	tells(t, stored(t), nil)
	for _, h := range ends() {
		for _, life := range ends() {
			for _, slewed := range ends() {
				noneIs(t, stored(t), look{h, life, slewed})
			}
		}
	}
}

// P10.1: those that are kept are the last eight, the oldest ahead, behind each Add.
func TestAdd(t *testing.T) {
	s := stored(t)
	all := series(50 * keep)
	for i, x := range all {
		add(t, s, x)
		want := end(all[:i+1])
		tells(t, s, want)
		tellsAt(t, s, want, look{x.At, greatest, x.Slewed}, look{x.At, 7, 0}, look{x.At - 1, 9, 1})
		if n := len(s.All()); n != min(keep, i+1) {
			t.Fatalf("%d of %d are kept", n, i+1)
		}
	}
}

// P10.1: the last one is the one that was added last, whatever its reading and its delay are.
func TestAddInNoOrder(t *testing.T) {
	s := stored(t)
	var added []api.Sample
	for i := range int64(3*keep + 1) {
		x := api.Sample{Offset: i, Delay: 100 - i*i%13, At: 90 - i*7%80, Slewed: -i}
		add(t, s, x)
		added = append(added, x)
		tells(t, s, end(added))
	}
}

// P10.1: the same sample again is one sample more.
func TestAddTheSame(t *testing.T) {
	x, y := api.Sample{Offset: 1, Delay: 2, At: 3, Slewed: 4}, api.Sample{Offset: 5, Delay: 1, At: 3}
	s := stored(t, y)
	added := []api.Sample{y}
	for range keep + 1 {
		add(t, s, x)
		added = append(added, x)
		tells(t, s, end(added))
	}
	// The other one was better, but isn't kept any more.
	bestIs(t, s, look{3, 0, 4}, x, 1, true)
}

// P10.2: the zero sample is a sample, too.
func TestZeroSample(t *testing.T) {
	s := stored(t, api.Sample{})
	tells(t, s, []api.Sample{{}})
	bestIs(t, s, look{0, 0, 0}, api.Sample{}, 0, true)
	bestIs(t, s, look{5, 5, 9}, api.Sample{}, -9, true)
	noneIs(t, s, look{5, 4, 9})
	noneIs(t, s, look{-1, 4, 9})
	add(t, s, api.Sample{Delay: -1, At: -1}, api.Sample{})
	tells(t, s, []api.Sample{{}, {Delay: -1, At: -1}, {}})
}

// P10.1, P10.2: behind Clear there are none, and samples may be added again.
func TestClear(t *testing.T) {
	for _, n := range amounts() {
		for _, again := range amounts() {
			before := series(n)
			s := stored(t, before...)
			tells(t, s, end(before))
			s.Clear()
			tells(t, s, nil)
			s.Clear()
			tells(t, s, nil)
			behind := series(n + again)[n:]
			for i, x := range behind {
				add(t, s, x)
				tellsAt(t, s, end(behind[:i+1]), look{x.At, greatest, 1}, look{x.At, 6, -1}, look{x.At, -1, 0})
			}
			s.Clear()
			tells(t, s, nil)
		}
	}
}

// P10.2, P10.3: a sample that was better, but was forgotten, plays no part.
func TestForgottenPlayNoPart(t *testing.T) {
	best := api.Sample{Offset: 7, Delay: -5, At: 100}
	s := stored(t, best)
	s.Clear()
	noneIs(t, s, look{100, 100, 0})
	worse := series(keep)
	add(t, s, best)
	for _, x := range worse[:keep-1] {
		add(t, s, x)
		bestIs(t, s, look{100, 100, 0}, best, 7, true)
	}
	add(t, s, worse[keep-1])
	tells(t, s, worse)
	if x, _, ok := s.Best(100, 100, 0); x == best || !ok {
		t.Error(x, ok)
	}
}

// P10.2: none is fresh: they are too old, or ahead, or life is below 0.
func TestNoneIsFresh(t *testing.T) {
	for _, n := range amounts() {
		s := stored(t, series(n)...)
		first, last := int64(0), int64(0)
		if all := s.All(); len(all) > 0 {
			first, last = all[0].At, all[len(all)-1].At
		}
		for _, slewed := range []int64{0, 1, -1, 1000, least, greatest} {
			noneIs(t, s, look{first - 1, greatest, slewed})
			noneIs(t, s, look{first - 1, 0, slewed})
			noneIs(t, s, look{least, greatest, slewed})
			noneIs(t, s, look{last + 1, 0, slewed})
			noneIs(t, s, look{last + 50, 49, slewed})
			noneIs(t, s, look{greatest, greatest - last - 1, slewed})
			noneIs(t, s, look{last, -1, slewed})
			noneIs(t, s, look{last, least, slewed})
			noneIs(t, s, look{greatest, least, slewed})
		}
	}
}

// P10.2: one alone is fresh, at each place; those that aren't have lesser delays.
func TestOneIsFresh(t *testing.T) {
	for place := range keep {
		for _, other := range []int64{9, 21, least, greatest} {
			var l []api.Sample
			for i := range int64(keep) {
				l = append(l, api.Sample{Offset: i, Delay: i - 50, At: other})
			}
			l[place] = api.Sample{Offset: 70, Delay: 60, At: 15, Slewed: 4}
			s := stored(t, l...)
			tellsAt(t, s, l, look{20, 10, 5})
			bestIs(t, s, look{20, 10, 5}, l[place], 69, true)
			bestIs(t, s, look{15, 0, 4}, l[place], 70, true)
			// Gone round, it is the same.
			round := stored(t, slices.Concat(series(5), l)...)
			bestIs(t, round, look{20, 10, 5}, l[place], 69, true)
		}
	}
}

// P10.2: a reading that is h, and one that is after it; an age that is just life, and one more.
func TestEdgesOfFreshness(t *testing.T) {
	for _, at := range []int64{0, 1000, -1000, 1 << 61, least + 1, greatest - 100} {
		x := api.Sample{Offset: 5, Delay: 6, At: at, Slewed: 7}
		s := stored(t, x)
		for _, life := range []int64{0, 1, 2, 50} {
			noneIs(t, s, look{at - 1, life, 7})
			bestIs(t, s, look{at, life, 7}, x, 5, true)
			bestIs(t, s, look{at + life, life, 7}, x, 5, true)
			noneIs(t, s, look{at + life + 1, life, 7})
		}
		for _, life := range []int64{-1, -2, -50, least} {
			for _, h := range []int64{at - 1, at, at + 1, least, greatest} {
				noneIs(t, s, look{h, life, 7})
			}
		}
		bestIs(t, s, look{greatest, greatest, 7}, x, 5, true)
		noneIs(t, s, look{at - 1, greatest, 7})
	}
}

// P10.2, P10.3: among others: those at the edge count, those beyond it don't.
func TestEdgesAmongOthers(t *testing.T) {
	ahead := api.Sample{Offset: 1, Delay: 1, At: 101}
	old := api.Sample{Offset: 2, Delay: 2, At: 89}
	now := api.Sample{Offset: 3, Delay: 3, At: 100}
	oldest := api.Sample{Offset: 4, Delay: 4, At: 90}
	all := []api.Sample{ahead, old, now, oldest}
	for range all {
		all = append(all[1:], all[0])
		s := stored(t, all...)
		bestIs(t, s, look{100, 10, 0}, now, 3, true)
		bestIs(t, s, look{99, 10, 0}, old, 2, true)
		bestIs(t, s, look{101, 10, 0}, ahead, 1, true)
		bestIs(t, s, look{99, 9, 0}, oldest, 4, true)
		bestIs(t, s, look{100, 11, 0}, old, 2, true)
		bestIs(t, s, look{100, 0, 0}, now, 3, true)
		bestIs(t, s, look{90, 0, 0}, oldest, 4, true)
		noneIs(t, s, look{95, 0, 0})
		noneIs(t, s, look{100, -1, 0})
	}
}

// P10.2, P10.3: the best one by its delay, wherever it stands; once it isn't fresh any more the next one.
func TestLeastDelay(t *testing.T) {
	for place := range keep {
		for next := range keep {
			if place == next {
				continue
			}
			var l []api.Sample
			for i := range int64(keep) {
				l = append(l, api.Sample{Offset: 100 + i, Delay: 50 + i%3, At: 60 + i})
			}
			l[place].Delay, l[place].At = 3, 40
			l[next].Delay, l[next].At = 5, 45
			s := stored(t, l...)
			bestIs(t, s, look{70, 100, 0}, l[place], 100+int64(place), true)
			bestIs(t, s, look{70, 30, 0}, l[place], 100+int64(place), true)
			bestIs(t, s, look{70, 29, 0}, l[next], 100+int64(next), true)
			bestIs(t, s, look{70, 25, 0}, l[next], 100+int64(next), true)
			tellsAt(t, s, l, look{70, 24, 0}, look{70, 5, 0}, look{44, 4, 0}, look{45, 4, 0})
		}
	}
}

// P10.2: a lesser delay goes ahead of a greater reading.
func TestDelayGoesAhead(t *testing.T) {
	early, late := api.Sample{Offset: 1, Delay: 3, At: 10}, api.Sample{Offset: 2, Delay: 4, At: 20}
	for _, s := range []*Store{stored(t, early, late), stored(t, late, early)} {
		bestIs(t, s, look{20, 10, 0}, early, 1, true)
		bestIs(t, s, look{20, 9, 0}, late, 2, true)
		bestIs(t, s, look{19, 9, 0}, early, 1, true)
	}
}

// P10.2: of the same delay the one whose reading is greater, wherever it stands.
func TestSameDelay(t *testing.T) {
	for place := range keep {
		for _, delay := range []int64{0, 5, -5, least, greatest} {
			var l []api.Sample
			for i := range int64(keep) {
				l = append(l, api.Sample{Offset: i, Delay: delay, At: 10 + i*5%keep})
			}
			l[place].At = 30
			s := stored(t, l...)
			bestIs(t, s, look{30, 100, 0}, l[place], int64(place), true)
			tellsAt(t, s, l, look{29, 100, 0}, look{15, 100, 0}, look{15, 1, 0})
		}
	}
}

// P10.2: of the same delay and the same reading the last one that was added.
func TestSameDelaySameReading(t *testing.T) {
	for first := range keep {
		for second := first + 1; second < keep; second++ {
			var l []api.Sample
			for i := range int64(keep) {
				l = append(l, api.Sample{Offset: 100 - i, Delay: 9, At: 10 + i, Slewed: i})
			}
			l[first].Delay, l[first].At = 2, 7
			l[second].Delay, l[second].At = 2, 7
			s := stored(t, l...)
			bestIs(t, s, look{30, 100, int64(second)}, l[second], 100-int64(second), true)
		}
	}
	var added []api.Sample
	s := stored(t)
	for i := range int64(3 * keep) {
		x := api.Sample{Offset: i * 7 % 5, Delay: 2, At: 7, Slewed: i}
		add(t, s, x)
		added = append(added, x)
		bestIs(t, s, look{7, 0, i}, x, x.Offset, true)
		tells(t, s, end(added))
	}
}

// P10.2: its offset now: what was slewed since then is no longer off.
func TestOffsetNow(t *testing.T) {
	for _, c := range []struct{ offset, was, slewed, want int64 }{
		{100, 7, 7, 100},
		{100, 7, 17, 90},
		{100, 7, 107, 0},
		{100, 7, 108, -1},
		{100, 7, 0, 107},
		{100, -7, -17, 110},
		{-100, 7, 17, -110},
		{-100, 7, -93, 0},
		{0, 0, 1, -1},
		{0, 0, -1, 1},
		{greatest, 0, -1, greatest},
		{greatest, 0, 1, greatest - 1},
		{least, 0, 1, least},
		{least, 0, -1, least + 1},
		{0, 0, least, greatest},
		{0, 0, greatest, least + 1},
		{greatest, least, greatest, 0},
		{-1, least, greatest, least},
		{least, greatest, least, 0},
		{-2, greatest, least, greatest - 1},
	} {
		x := api.Sample{Offset: c.offset, Delay: 3, At: 10, Slewed: c.was}
		// That of the best one, not of another one.
		other := api.Sample{Offset: 55, Delay: 4, At: 11, Slewed: 66}
		old := api.Sample{Offset: 77, Delay: 2, At: 1, Slewed: 88}
		for _, s := range []*Store{stored(t, x), stored(t, x, other, old), stored(t, old, other, x)} {
			bestIs(t, s, look{12, 5, c.slewed}, x, c.want, true)
		}
	}
}

// P10.2: what is told is the sample as it was added; what was slewed plays no part in which one it is.
func TestSlewedPlaysNoPart(t *testing.T) {
	l := []api.Sample{{Offset: 900, Delay: 5, At: 10, Slewed: 900}, {Offset: -900, Delay: 3, At: 11, Slewed: -900}, {Offset: 0, Delay: 4, At: 12}}
	s := stored(t, l...)
	for _, slewed := range ends() {
		if x, _, ok := s.Best(12, 5, slewed); x != l[1] || !ok {
			t.Error(slewed, x, ok)
		}
	}
	tells(t, s, l)
}

// Rule 5: the least and the greatest numbers in each field, and as what Best is asked with.
func TestEnds(t *testing.T) {
	var ways []look
	for _, h := range ends() {
		for _, life := range ends() {
			ways = append(ways, look{h, life, 0}, look{h, life, least}, look{h, life, greatest})
		}
	}
	for _, n := range ends() {
		one := []api.Sample{{Offset: n}, {Delay: n}, {At: n}, {Slewed: n}, {Offset: n, Delay: n, At: n, Slewed: n}}
		for i, x := range one {
			tellsAt(t, stored(t, x), one[i:i+1], ways...)
		}
		tellsAt(t, stored(t, one...), one, ways...)
		slices.Reverse(one)
		tellsAt(t, stored(t, one...), one, ways...)
	}
}

// Rule 5: any two samples of the least and the greatest numbers.
func TestEndsOfTwo(t *testing.T) {
	edge := []int64{least, 0, greatest}
	var all []api.Sample
	for _, delay := range edge {
		for _, at := range edge {
			for _, slewed := range edge {
				all = append(all, api.Sample{Offset: int64(len(all)), Delay: delay, At: at, Slewed: slewed})
			}
		}
	}
	for _, x := range all {
		for _, y := range all {
			l := []api.Sample{x, y}
			tellsAt(t, stored(t, l...), l, look{least, 0, greatest}, look{0, 0, 0}, look{greatest, 0, least}, look{greatest, greatest, greatest}, look{0, greatest - 1, 0}, look{greatest, least, 0})
		}
	}
}

// some is a sample like chance, of few delays and readings, so that many are the same in one or in both; seldom of any.
func some(x *chance) api.Sample {
	s := api.Sample{Offset: x.spread(), Delay: x.small(5), At: x.small(30), Slewed: x.small(100)}
	if x.small(8) == 0 {
		s.Delay, s.Slewed = x.spread(), x.spread()
	}
	if x.small(8) == 0 {
		s.At = x.of(least, least+1, -1, greatest-1, greatest, x.spread())
	}
	return s
}

// someLook is such a look.
func someLook(x *chance) look {
	l := look{x.small(40), x.small(30), x.small(100)}
	if x.small(6) == 0 {
		l = look{x.of(least, -1, 0, 30, greatest), x.of(least, -1, 0, 30, greatest-1, greatest), x.spread()}
	}
	return l
}

// P10.1, P10.2: Adds and Clears in any order, held against the document's words.
func TestAgainstPaper(t *testing.T) {
	s := stored(t)
	var added []api.Sample
	x := chance(10)
	for range 30000 {
		if x.small(40) == 0 {
			s.Clear()
			added = nil
		} else {
			one := some(&x)
			add(t, s, one)
			added = append(end(added), one)
		}
		tellsAt(t, s, end(added), someLook(&x), someLook(&x), someLook(&x))
	}
}

// P10.3: none that is fresh has a lesser delay than the best one; without those that aren't fresh all is the same.
func TestOldOnesPlayNoPart(t *testing.T) {
	x := chance(103)
	for range 5000 {
		var l []api.Sample
		for range x.small(keep + 1) {
			l = append(l, some(&x))
		}
		s, way := stored(t, l...), someLook(&x)
		fresh := way.ofThese(l)
		best, off, ok := s.Best(way.h, way.life, way.slewed)
		if ok != (len(fresh) > 0) || ok && !slices.Contains(fresh, best) {
			t.Fatalf("%+v of %+v: %+v, %v", way, l, best, ok)
		}
		for _, y := range fresh {
			if y.Delay < best.Delay {
				t.Fatalf("%+v of %+v: %+v, but %+v took less", way, l, best, y)
			}
		}
		bestIs(t, stored(t, fresh...), way, best, off, ok)
	}
}

// The line in brackets.
func TestNil(t *testing.T) {
	var s *Store
	for range 2 {
		for _, n := range ends() {
			if e := s.Add(api.Sample{Offset: n, Delay: n, At: n, Slewed: n}); e != api.ErrNil {
				t.Errorf("Add: %v", e)
			}
			noneIs(t, s, look{n, greatest, n})
			noneIs(t, s, look{0, n, 0})
		}
		if all := s.All(); len(all) != 0 {
			t.Errorf("All: %v", all)
		}
		s.Clear()
	}
}

// Best and All change nothing: a store that is asked between is as one that isn't.
func TestAskingChangesNothing(t *testing.T) {
	asked, other := stored(t), stored(t)
	for _, x := range series(5 * keep) {
		for _, l := range looks() {
			asked.Best(l.h, l.life, l.slewed)
			asked.All()
		}
		add(t, asked, x)
		add(t, other, x)
		tells(t, asked, other.All())
	}
}

// Rule 4: what was handed in may be changed then.
func TestHandedInMayBeChanged(t *testing.T) {
	x := api.Sample{Offset: 1, Delay: 2, At: 3, Slewed: 4}
	s := stored(t, x)
	want := []api.Sample{x}
	x.Offset, x.Delay, x.At, x.Slewed = 9, 9, 9, 9
	tells(t, s, want)
	best, _, _ := s.Best(3, 0, 0)
	best.Delay, best.At = 100, 100
	tells(t, s, want)
}

// odd is a sample that no store was handed.
var odd = api.Sample{Offset: -77, Delay: -77, At: 1, Slewed: -77}

// Rule 4: who changes a list that was told changes nothing of the store, nor of another list.
func TestToldListsAreApart(t *testing.T) {
	for _, n := range amounts() {
		added := series(n)
		s, want := stored(t, added...), end(added)
		first, second := s.All(), s.All()
		for i := range first {
			first[i] = odd
		}
		tells(t, s, want)
		if !slices.Equal(second, want) {
			t.Fatalf("%d added: the other list is %+v", n, second)
		}
		slices.Reverse(second)
		tells(t, s, want)
		for i, x := range first {
			if x != odd {
				t.Fatalf("%d added: place %d was changed to %+v", n, i, x)
			}
		}
	}
}

// Rule 4: who appends to a list that was told changes nothing of the store, nor of another list; and the store nothing of what was appended.
func TestToldListsAreAppendedTo(t *testing.T) {
	other := api.Sample{Offset: 88, Delay: -88, At: 2, Slewed: 88}
	for _, n := range amounts() {
		added := series(n + 1)
		s, want := stored(t, added[:n]...), end(added[:n])
		first, second := s.All(), s.All()
		longer, wider := append(first, odd, other), append(second, other, odd)
		shorter := append(s.All()[:len(want)/2], odd)
		tells(t, s, want)
		add(t, s, added[n])
		if !slices.Equal(longer, slices.Concat(want, []api.Sample{odd, other})) || !slices.Equal(wider, slices.Concat(want, []api.Sample{other, odd})) {
			t.Fatalf("%d added: %+v and %+v", n, longer, wider)
		}
		if !slices.Equal(shorter, slices.Concat(want[:len(want)/2], []api.Sample{odd})) {
			t.Fatalf("%d added: %+v", n, shorter)
		}
		tells(t, s, end(added))
	}
}

// Rule 4: what lies behind a told list's length is nothing of the store's.
func TestNothingBehindToldLists(t *testing.T) {
	for _, n := range amounts() {
		s := stored(t, series(n)...)
		for range 2 {
			all := s.All()
			for _, x := range all[len(all):cap(all)] {
				if x != (api.Sample{}) {
					t.Fatalf("%d added: %+v lies behind", n, x)
				}
			}
			s.Clear()
		}
	}
}

// Rule 4: a later Add or Clear changes nothing of a list that was told before.
func TestToldListsStay(t *testing.T) {
	s := stored(t)
	var told, wants [][]api.Sample
	var added []api.Sample
	note := func() {
		told = append(told, s.All())
		wants = append(wants, slices.Clone(end(added)))
	}
	for i, x := range series(6 * keep) {
		note()
		add(t, s, x)
		added = append(added, x)
		if i == keep/2 || i == 3*keep || i == 4*keep-1 {
			note()
			s.Clear()
			added = nil
		}
	}
	for i, all := range told {
		if !slices.Equal(all, wants[i]) {
			t.Fatalf("list %d is %+v, was %+v", i, all, wants[i])
		}
	}
}

// P2: two stores have nothing to do with one another.
func TestTwoStores(t *testing.T) {
	a, b := stored(t), stored(t)
	var ofA, ofB []api.Sample
	for i, x := range series(4 * keep) {
		add(t, a, x)
		ofA = append(ofA, x)
		tells(t, b, end(ofB))
		if i%3 == 0 {
			x.Offset, x.Delay = -x.Offset, x.Delay-9
			add(t, b, x)
			ofB = append(ofB, x)
		}
		tells(t, a, end(ofA))
		tells(t, b, end(ofB))
	}
	a.Clear()
	tells(t, a, nil)
	tells(t, b, end(ofB))
	// Handed what the other one told.
	add(t, a, b.All()...)
	b.Clear()
	tells(t, a, end(ofB))
	tells(t, b, nil)
	tells(t, stored(t), nil)
}

// What is fresh is gone through from the oldest on, as often as it is asked for, and no further than is wanted.
func TestFreshAt(t *testing.T) {
	l := []api.Sample{{Offset: 1, At: 10}, {Offset: 2, At: 3}, {Offset: 3, At: 12}, {Offset: 4, At: 21}, {Offset: 5, At: 11}}
	s := stored(t, l...)
	want := []api.Sample{l[0], l[2], l[4]}
	through := s.freshAt(20, 10)
	for range 2 {
		if got := slices.Collect(through); !slices.Equal(got, want) {
			t.Errorf("%+v", got)
		}
	}
	for n := range want {
		var got []api.Sample
		for x := range through {
			got = append(got, x)
			if len(got) == n+1 {
				break
			}
		}
		if !slices.Equal(got, want[:n+1]) {
			t.Errorf("%d: %+v", n, got)
		}
	}
	var none *Store
	for x := range none.freshAt(greatest, greatest) {
		t.Errorf("%+v", x)
	}
	tells(t, s, l)
}

// The chapter's examples.
func TestExamples(t *testing.T) {
	l := []api.Sample{{Offset: 1, Delay: 7, At: 20}, {Offset: 2, Delay: 3, At: 10}, {Offset: 3, Delay: 5, At: 30}}
	s := stored(t, l...)
	bestIs(t, s, look{30, 20, 0}, l[1], 2, true)
	bestIs(t, s, look{30, 19, 0}, l[2], 3, true)
	bestIs(t, s, look{31, 20, 0}, l[2], 3, true)
}

// Rule 6: calls may be made by many goroutines at a time, each of a store of its own.
func TestManyGoroutines(t *testing.T) {
	var wait sync.WaitGroup
	for i := range int64(16) {
		wait.Go(func() {
			s := New()
			var e api.Errno
			for n := range int64(500) {
				e = max(e, s.Add(api.Sample{Offset: i, Delay: 1000 - n, At: n, Slewed: n}))
			}
			all := s.All()
			x, off, ok := s.Best(499, 10, 500)
			if e != api.OK || len(all) != keep || all[0].At != 492 || x != all[keep-1] || x.At != 499 || off != i-1 || !ok {
				t.Error(i, e, all, x, off, ok)
			}
		})
	}
	wait.Wait()
}
