package quorum

import (
	"math"
	"math/bits"
	"slices"
	"sync"
	"testing"

	"chronobate/api"
	"chronobate/fresh"
)

const (
	least    = math.MinInt64
	greatest = math.MaxInt64
)

// chance are numbers that look like chance, and are the same each time.
type chance uint64

func (x *chance) next() uint64 {
	*x ^= *x << 13
	*x ^= *x >> 7
	*x ^= *x << 17
	return uint64(*x)
}

// spread is a number of any size.
func (x *chance) spread() int64 { return int64(x.next()) >> (x.next() % 64) }

// below is a number from 0 on, less than n.
func (x *chance) below(n int) int { return int(x.next() % uint64(n)) }

// sample is one that is made at a reading near from 0 to 100, but at times at any.
func (x *chance) sample() api.Sample {
	at := int64(x.below(101))
	if x.below(9) == 0 {
		at = x.spread()
	}
	return api.Sample{Offset: x.spread(), Delay: int64(x.below(5)), At: at, Slewed: x.spread()}
}

// look is what stores are asked with.
type look struct{ h, life, slewed int64 }

// mid sees what is made from 80 to 100.
var mid = look{h: 100, life: 20, slewed: 7}

// looks see all, some or none of samples that are from 0 on.
func looks() []look {
	return []look{mid, {}, {100, greatest, -7}, {100, 50, 5}, {60, 20, greatest}, {60, 0, least}, {greatest, greatest, 1}, {least, greatest, 2}, {100, -1, 3}, {100, least, greatest}, {-1, 100, 9}, {greatest, least, least}}
}

// store is one of samples, the first one added ahead.
func store(t *testing.T, l ...api.Sample) *fresh.Store {
	t.Helper()
	s := fresh.New()
	for _, x := range l {
		if e := s.Add(x); e != api.OK {
			t.Fatalf("Add(%+v): %v", x, e)
		}
	}
	return s
}

// cleared is a store that had a sample.
func cleared(t *testing.T) *fresh.Store {
	t.Helper()
	s := store(t, api.Sample{Offset: 5, Delay: 5, At: 90})
	s.Clear()
	return s
}

// kind is a kind of store, and what its vote is at mid, if it has one.
type kind struct {
	store *fresh.Store
	best  api.Sample
	now   int64
	votes bool
}

// kinds are all kinds of stores, each made anew.
func kinds(t *testing.T) []kind {
	t.Helper()
	one := api.Sample{Offset: 50, Delay: 9, At: 80, Slewed: 2}
	many := []api.Sample{{Offset: 1, Delay: 1, At: 79}, {Offset: -30, Delay: 4, At: 90, Slewed: 7}, {Offset: 3, Delay: 5, At: 100}, {Offset: 8, At: 101}}
	same := []api.Sample{{Offset: 20, Delay: 3, At: 95, Slewed: 10}, {Offset: 10, Delay: 3, At: 85}}
	return []kind{
		{},
		{store: store(t)},
		{store: cleared(t)},
		{store: store(t, api.Sample{Offset: 6, At: 79}, api.Sample{Offset: 7})},
		{store: store(t, api.Sample{Offset: 8, At: 101}, api.Sample{Offset: 9, At: greatest})},
		{store: store(t, one), best: one, now: 45, votes: true},
		{store: store(t, many...), best: many[1], now: -30, votes: true},
		{store: store(t, same...), best: same[0], now: 23, votes: true},
		{store: store(t, api.Sample{At: 80, Slewed: 7}), best: api.Sample{At: 80, Slewed: 7}, votes: true},
	}
}

// paper is a list of kinds' stores, and their votes at mid by the document's words.
func paper(l []kind) ([]*fresh.Store, []Vote) {
	var stores []*fresh.Store
	var votes []Vote
	for i, k := range l {
		stores = append(stores, k.store)
		if k.votes {
			votes = append(votes, Vote{i, k.best, k.now})
		}
	}
	return stores, votes
}

// asked are the votes of stores, each asked by itself.
func asked(l []*fresh.Store, w look) []Vote {
	var votes []Vote
	for i, s := range l {
		if x, now, ok := s.Best(w.h, w.life, w.slewed); ok {
			votes = append(votes, Vote{i, x, now})
		}
	}
	return votes
}

// chosen is what Choose must tell, by the document's words.
func chosen(q int, l []Vote) (int64, api.Errno) {
	if q < 1 {
		return 0, api.ErrRange
	}
	if len(l) < q {
		return 0, api.ErrLack
	}
	all := inOrder(l)
	return all[(len(all)-1)/2], api.OK
}

// inOrder are the offsets of votes, the least one ahead.
func inOrder(l []Vote) []int64 {
	var all []int64
	for _, v := range l {
		all = append(all, v.Offset)
	}
	slices.Sort(all)
	return all
}

// quorums are numbers that may be asked for where there are n votes.
func quorums(n int) []int {
	return []int{math.MinInt, math.MinInt + 1, -n, -1, 0, 1, (n + 1) / 2, n - 1, n, n + 1, n + 2, math.MaxInt - 1, math.MaxInt}
}

// votesOf are votes of offsets, with servers and samples that are any.
func votesOf(l ...int64) []Vote {
	var out []Vote
	x := chance(len(l) + 1)
	for _, n := range l {
		out = append(out, Vote{int(x.spread()), x.sample(), n})
	}
	return out
}

// chooseIs holds what Choose tells against what it should.
func chooseIs(t *testing.T, q int, l []Vote, want int64, e api.Errno) {
	t.Helper()
	if n, f := Choose(q, l...); n != want || f != e {
		t.Fatalf("Choose(%d, %+v): %d, %v, want %d, %v", q, l, n, f, want, e)
	}
}

// chooses holds what Choose tells of votes, for all q, against what it should.
func chooses(t *testing.T, l []Vote) {
	t.Helper()
	own := slices.Clone(l)
	// Twice: asking changes nothing.
	for range 2 {
		for _, q := range quorums(len(l)) {
			n, e := chosen(q, own)
			chooseIs(t, q, l, n, e)
		}
		if !slices.Equal(l, own) {
			t.Fatalf("%+v was changed to %+v", own, l)
		}
	}
}

// votesAre holds what Votes tells against what it should.
func votesAre(t *testing.T, l []*fresh.Store, w look, want []Vote) {
	t.Helper()
	if v := Votes(l, w.h, w.life, w.slewed); !slices.Equal(v, want) {
		t.Fatalf("Votes(%+v): %+v, want %+v", w, v, want)
	}
}

// selectIs holds what Select tells against what it should.
func selectIs(t *testing.T, q int, l []*fresh.Store, w look, want int64, votes []Vote, e api.Errno) {
	t.Helper()
	if n, v, f := Select(q, l, w.h, w.life, w.slewed); n != want || !slices.Equal(v, votes) || f != e {
		t.Fatalf("Select(%d, %+v): %d, %+v, %v, want %d, %+v, %v", q, w, n, v, f, want, votes, e)
	}
}

// kept are the samples of each store.
func kept(l []*fresh.Store) [][]api.Sample {
	var out [][]api.Sample
	for _, s := range l {
		out = append(out, s.All())
	}
	return out
}

// tells holds all that is told of stores, for all q, against what it should; and that they stay.
func tells(t *testing.T, l []*fresh.Store, w look, want []Vote) {
	t.Helper()
	own, samples := slices.Clone(l), kept(l)
	// Twice: asking changes nothing.
	for range 2 {
		votesAre(t, l, w, want)
		for _, q := range quorums(len(want)) {
			n, e := chosen(q, want)
			votes := want
			if q < 1 {
				votes = nil
			}
			selectIs(t, q, l, w, n, votes, e)
		}
	}
	if !slices.Equal(l, own) {
		t.Fatal("the list of stores was changed")
	}
	for i, s := range l {
		if !slices.Equal(s.All(), samples[i]) {
			t.Fatalf("store %d was changed from %+v to %+v", i, samples[i], s.All())
		}
	}
}

// orders calls do with a list in each of its orders.
func orders[T any](l []T, do func([]T)) {
	own := slices.Clone(l)
	var from func(int)
	from = func(at int) {
		if at == len(own) {
			do(own)
			return
		}
		for i := at; i < len(own); i++ {
			own[at], own[i] = own[i], own[at]
			from(at + 1)
			own[at], own[i] = own[i], own[at]
		}
	}
	from(0)
}

// noneOf are all lists of a type without elements: nil, made empty, and cut to nothing.
func noneOf[T any](x T) [][]T {
	return [][]T{nil, {}, make([]T, 0, 5), []T{x, x, x}[:0], []T{x, x, x}[1:1], []T{x}[1:]}
}

// P12.1, P12.2: of no stores, of no votes.
func TestNone(t *testing.T) {
	s := store(t, api.Sample{At: 90})
	for _, l := range noneOf(s) {
		for _, w := range looks() {
			tells(t, l, w, nil)
		}
	}
	for _, l := range noneOf(Vote{1, api.Sample{}, 7}) {
		chooses(t, l)
		chooseIs(t, 1, l, 0, api.ErrLack)
		chooseIs(t, 0, l, 0, api.ErrRange)
	}
	if n, e := Choose(1); n != 0 || e != api.ErrLack {
		t.Error(n, e)
	}
	if n, e := Choose(-1); n != 0 || e != api.ErrRange {
		t.Error(n, e)
	}
}

// P12.1: each kind of store by itself, once and many times.
func TestEachKind(t *testing.T) {
	for _, k := range kinds(t) {
		for _, n := range []int{1, 2, 3, 20} {
			stores, votes := paper(slices.Repeat([]kind{k}, n))
			if k.votes && len(votes) != n || !k.votes && len(votes) != 0 {
				t.Fatal(len(votes))
			}
			tells(t, stores, mid, votes)
		}
	}
}

// P12.1, P12.2: all lists of up to four of all kinds.
func TestEveryMixture(t *testing.T) {
	all := kinds(t)
	var from func(l []kind)
	from = func(l []kind) {
		stores, votes := paper(l)
		tells(t, stores, mid, votes)
		if len(l) == 4 {
			return
		}
		for _, k := range all {
			from(append(slices.Clone(l), k))
		}
	}
	from(nil)
}

// P12.1: all kinds in every order: each vote has its store's place.
func TestEveryOrderOfKinds(t *testing.T) {
	orders(kinds(t)[1:], func(l []kind) {
		stores, votes := paper(l)
		votesAre(t, stores, mid, votes)
		// In the middle of 45, -30, 23 and 0.
		selectIs(t, 3, stores, mid, 0, votes, api.OK)
	})
}

// P12.1: a store that is there twice has two votes.
func TestOneStoreTwice(t *testing.T) {
	x := api.Sample{Offset: 4, Delay: 1, At: 100}
	s := store(t, x)
	votesAre(t, []*fresh.Store{s, nil, s}, mid, []Vote{{0, x, -3}, {2, x, -3}})
}

// P12.1: h, life and slewed each stand where Best has them.
func TestLookIsHandedOn(t *testing.T) {
	old, young := api.Sample{Offset: 100, Delay: 1, At: 10, Slewed: 5}, api.Sample{Offset: 200, Delay: 2, At: 30, Slewed: 6}
	l := []*fresh.Store{store(t, young), store(t, old, young)}
	for _, c := range []struct {
		w    look
		want []Vote
	}{
		{look{9, 1000, 0}, nil},
		{look{10, 0, 0}, []Vote{{1, old, 105}}},
		{look{29, 19, 5}, []Vote{{1, old, 100}}},
		{look{29, 18, 5}, nil},
		{look{30, 20, 7}, []Vote{{0, young, 199}, {1, old, 98}}},
		{look{30, 19, 7}, []Vote{{0, young, 199}, {1, young, 199}}},
		{look{31, 0, 7}, nil},
		{look{30, -1, 7}, nil},
		{look{30, 19, -100}, []Vote{{0, young, 306}, {1, young, 306}}},
	} {
		tells(t, l, c.w, c.want)
	}
}

// Rule 5: samples and looks at the ends of int64.
func TestEnds(t *testing.T) {
	low, high := api.Sample{Offset: least, Delay: least, At: least, Slewed: least}, api.Sample{Offset: greatest, Delay: greatest, At: greatest, Slewed: greatest}
	l := []*fresh.Store{store(t, high), store(t, low), store(t, high, low)}
	tells(t, l, look{greatest, greatest, greatest}, []Vote{{0, high, greatest}, {1, low, least}, {2, low, least}})
	tells(t, l, look{greatest, greatest, least}, []Vote{{0, high, greatest}, {1, low, least}, {2, low, least}})
	tells(t, l, look{greatest, 0, 0}, []Vote{{0, high, greatest}, {2, high, greatest}})
	tells(t, l, look{least, 0, 0}, []Vote{{1, low, least}, {2, low, least}})
	tells(t, l, look{least, -1, 0}, nil)
	for _, w := range looks() {
		tells(t, l, w, asked(l, w))
	}
}

// P12.1, P12.2: stores by chance, looked at from anywhere.
func TestStoresByChance(t *testing.T) {
	x := chance(88172645463325252)
	for range 1500 {
		var l []*fresh.Store
		for range x.below(20) {
			var s *fresh.Store
			if x.below(6) > 0 {
				s = fresh.New()
				for range x.below(11) {
					s.Add(x.sample())
				}
			}
			l = append(l, s)
		}
		w := look{int64(x.below(120)), int64(x.below(40)), x.spread()}
		if x.below(9) == 0 {
			w = looks()[x.below(len(looks()))]
		}
		tells(t, l, w, asked(l, w))
	}
}

// P12.1: more stores than a config has servers.
func TestManyStores(t *testing.T) {
	all := kinds(t)
	var l []kind
	for i := range 3000 {
		l = append(l, all[i*i%len(all)])
	}
	stores, votes := paper(l)
	tells(t, stores, mid, votes)
}

// P12.1: what the stores are handed later is nothing of votes that were told before, but of those that are told then.
func TestVotesOfNow(t *testing.T) {
	x, y := api.Sample{Offset: 10, Delay: 2, At: 90}, api.Sample{Offset: 30, Delay: 1, At: 95}
	l := []*fresh.Store{store(t), store(t, x)}
	first := []Vote{{1, x, 3}}
	v := Votes(l, mid.h, mid.life, mid.slewed)
	tells(t, l, mid, first)
	l[0].Add(y)
	l[1].Add(y)
	tells(t, l, mid, []Vote{{0, y, 23}, {1, y, 23}})
	l[1].Clear()
	tells(t, l, mid, []Vote{{0, y, 23}})
	l[0] = nil
	tells(t, l, mid, nil)
	if !slices.Equal(v, first) {
		t.Errorf("%+v", v)
	}
}

// P12.2: of some offsets, with what is told written out.
func TestChoose(t *testing.T) {
	for _, c := range []struct {
		q    int
		l    []int64
		want int64
		e    api.Errno
	}{
		{1, []int64{5}, 5, api.OK},
		{2, []int64{5}, 0, api.ErrLack},
		{1, []int64{5, 1}, 1, api.OK},
		{2, []int64{1, 5}, 1, api.OK},
		{3, []int64{1, 5}, 0, api.ErrLack},
		{2, []int64{9, -9}, -9, api.OK},
		{1, []int64{5, 1, 9}, 5, api.OK},
		{3, []int64{5, 1, 9}, 5, api.OK},
		{4, []int64{5, 1, 9}, 0, api.ErrLack},
		{4, []int64{5, 1, 9, 7}, 5, api.OK},
		{1, []int64{5, 1, 9, 7}, 5, api.OK},
		{5, []int64{5, 1, 9, 7}, 0, api.ErrLack},
		{3, []int64{4, 4, 4, 1, 9}, 4, api.OK},
		{5, []int64{-1, -2, -3, -4, -5}, -3, api.OK},
		{6, []int64{6, 5, 4, 3, 2, 1}, 3, api.OK},
		{7, []int64{6, 5, 4, 3, 2, 1}, 0, api.ErrLack},
		{math.MaxInt, []int64{6, 5}, 0, api.ErrLack},
		{0, []int64{5, 1, 9}, 0, api.ErrRange},
		{-1, []int64{5, 1, 9}, 0, api.ErrRange},
		{-3, []int64{5, 1, 9}, 0, api.ErrRange},
		{math.MinInt, []int64{5, 1, 9}, 0, api.ErrRange},
		{math.MinInt, []int64{5}, 0, api.ErrRange},
	} {
		chooseIs(t, c.q, votesOf(c.l...), c.want, c.e)
		chooses(t, votesOf(c.l...))
	}
}

// P12.2, rule 5: offsets at the least and the greatest int64.
func TestChooseEnds(t *testing.T) {
	for _, c := range []struct {
		l    []int64
		want int64
	}{
		{[]int64{least}, least},
		{[]int64{greatest}, greatest},
		{[]int64{greatest, least}, least},
		{[]int64{greatest, greatest, least}, greatest},
		{[]int64{least, 0, greatest}, 0},
		{[]int64{greatest, least, -1, least}, least},
		{[]int64{greatest, least, greatest, -1}, -1},
		{[]int64{greatest, greatest - 1, greatest, least, least + 1}, greatest - 1},
	} {
		for q := 1; q <= len(c.l); q++ {
			chooseIs(t, q, votesOf(c.l...), c.want, api.OK)
		}
		chooses(t, votesOf(c.l...))
	}
}

// P12.2: all lists of up to five of few offsets, so that each way to be the same, and each order, is there; and of many.
func TestChooseEveryList(t *testing.T) {
	some := []int64{least, -3, 0, greatest}
	var from func(l []int64)
	from = func(l []int64) {
		chooses(t, votesOf(l...))
		if len(l) == 5 {
			return
		}
		for _, n := range some {
			from(append(slices.Clone(l), n))
		}
	}
	from(nil)
	x := chance(362436069)
	for _, n := range []int{15, 16, 17, 100, 101, 5000} {
		var l []int64
		for range n {
			l = append(l, x.spread())
		}
		chooses(t, votesOf(l...))
	}
}

// P12.2: what is chosen hangs on the offsets alone, not on the servers, nor on the samples, nor on the order.
func TestOffsetsAlone(t *testing.T) {
	l := []Vote{
		{Server: 4, Sample: api.Sample{Offset: -1000, Delay: 1, At: 900, Slewed: 3}, Offset: 5},
		{Server: -7, Sample: api.Sample{Offset: 1000, Delay: -4, At: greatest}, Offset: 1},
		{Server: 4, Sample: api.Sample{Offset: 7, Delay: 0, At: least}, Offset: 9},
		{Server: math.MinInt, Offset: 7},
		{Server: math.MaxInt, Sample: api.Sample{Offset: least, Delay: greatest, Slewed: greatest}, Offset: 6},
	}
	orders(l, func(o []Vote) {
		chooseIs(t, 5, o, 6, api.OK)
		chooseIs(t, 1, o, 6, api.OK)
		chooseIs(t, 6, o, 0, api.ErrLack)
	})
}

// P12.2: beside ErrRange no votes are told, though there are some; beside ErrLack all that there are.
func TestSelect(t *testing.T) {
	x, y, z := api.Sample{Offset: 100, Delay: 5, At: 90}, api.Sample{Offset: 300, Delay: 1, At: 95, Slewed: 40}, api.Sample{Offset: -2, Delay: 3, At: 99, Slewed: -1}
	l := []*fresh.Store{nil, store(t, x), store(t), store(t, y), store(t, z), store(t, api.Sample{Offset: 1, At: 50})}
	votes := []Vote{{1, x, 93}, {3, y, 333}, {4, z, -10}}
	for _, q := range []int{math.MinInt, -4, -1, 0} {
		selectIs(t, q, l, mid, 0, nil, api.ErrRange)
		selectIs(t, q, l[:3], mid, 0, nil, api.ErrRange)
		selectIs(t, q, nil, mid, 0, nil, api.ErrRange)
	}
	for _, q := range []int{1, 2, 3} {
		selectIs(t, q, l, mid, 93, votes, api.OK)
	}
	for _, q := range []int{4, 6, 7, math.MaxInt} {
		selectIs(t, q, l, mid, 0, votes, api.ErrLack)
	}
	selectIs(t, 2, l[:4], mid, 93, votes[:2], api.OK)
	selectIs(t, 3, l[:4], mid, 0, votes[:2], api.ErrLack)
	selectIs(t, 2, l[:3], mid, 0, votes[:1], api.ErrLack)
	selectIs(t, 1, l[:1], mid, 0, nil, api.ErrLack)
	selectIs(t, 1, nil, mid, 0, nil, api.ErrLack)
	selectIs(t, 1, l, look{40, 20, 0}, 0, nil, api.ErrLack)
	selectIs(t, 0, l, look{40, 20, 0}, 0, nil, api.ErrRange)
}

// lies are what liars turn their votes into: all the same, far off to one side or to both, near the others, any.
func lies(x *chance) []func(i int, v Vote) Vote {
	all := func(n int64) func(int, Vote) Vote {
		return func(_ int, v Vote) Vote { return Vote{v.Server, v.Sample, n} }
	}
	return []func(i int, v Vote) Vote{
		all(least), all(greatest), all(0), all(x.spread()),
		func(i int, v Vote) Vote { return Vote{v.Server, v.Sample, []int64{least, greatest}[i%2]} },
		func(i int, v Vote) Vote { return Vote{v.Server, v.Sample, v.Offset + 1} },
		func(i int, v Vote) Vote { return Vote{v.Server, v.Sample, -v.Offset} },
		func(int, Vote) Vote { return Vote{int(x.spread()), x.sample(), x.spread()} },
		func(int, Vote) Vote { return Vote{} },
	}
}

// betweenOthers holds that what is chosen of all is between the least and the greatest offset of the honest ones.
func betweenOthers(t *testing.T, n int64, honest, all []Vote) {
	t.Helper()
	others := inOrder(honest)
	if n < others[0] || n > others[len(others)-1] {
		t.Fatalf("%d of %+v isn't between those of %+v", n, all, honest)
	}
}

// P12.3: of up to eight votes each set of fewer than half lies, in every way.
func TestLiars(t *testing.T) {
	x := chance(521288629)
	for q := 1; q <= 8; q++ {
		for liars := range uint(1) << q {
			if 2*bits.OnesCount(liars) >= q {
				continue
			}
			for _, lie := range lies(&x) {
				var honest, all []Vote
				for i := range q {
					v := Vote{i, api.Sample{}, int64(x.below(40)) - 20}
					if liars>>i&1 == 0 {
						honest = append(honest, v)
					} else {
						v = lie(i, v)
					}
					all = append(all, v)
				}
				n, e := Choose(q, all...)
				if e != api.OK {
					t.Fatalf("Choose(%d, %+v): %v", q, all, e)
				}
				betweenOthers(t, n, honest, all)
			}
		}
	}
}

// P12.3: of more votes than q, and of many, fewer than half of q lie, anywhere among them.
func TestLiarsAmongMore(t *testing.T) {
	x := chance(7654321)
	for range 4000 {
		n := 1 + x.below(60)
		q := 1 + x.below(n)
		most := (q - 1) / 2
		lie := lies(&x)[x.below(9)]
		var honest, all []Vote
		for i := range n {
			v := Vote{i, api.Sample{}, x.spread()}
			if most > 0 && (x.below(2) == 0 || n-i <= most) {
				v = lie(i, v)
				most--
			} else {
				honest = append(honest, v)
			}
			all = append(all, v)
		}
		got, e := Choose(q, all...)
		if e != api.OK {
			t.Fatalf("Choose(%d, %+v): %v", q, all, e)
		}
		betweenOthers(t, got, honest, all)
	}
}

// P12.3: stores of liars, whose samples are any, among honest ones.
func TestLyingStores(t *testing.T) {
	x := chance(1234567)
	for range 3000 {
		q := 1 + x.below(16)
		most := (q - 1) / 2
		var l []*fresh.Store
		var honest []Vote
		for i := range q {
			liar := x.below(q) < most
			if liar {
				most--
			}
			s := store(t)
			for range 1 + x.below(10) {
				y := api.Sample{Offset: int64(x.below(90)), Delay: int64(x.below(9)), At: 80 + int64(x.below(21)), Slewed: int64(x.below(8))}
				if liar {
					y.Offset, y.Delay, y.Slewed = x.spread(), -y.Delay, x.spread()
				}
				s.Add(y)
			}
			l = append(l, s)
			if y, now, _ := s.Best(mid.h, mid.life, mid.slewed); !liar {
				honest = append(honest, Vote{i, y, now})
			}
		}
		n, v, e := Select(q, l, mid.h, mid.life, mid.slewed)
		if len(v) != q || e != api.OK {
			t.Fatalf("Select(%d): %+v, %v", q, v, e)
		}
		betweenOthers(t, n, honest, v)
	}
}

// Rule 4: what lies ahead of a list and behind its length plays no part, and stays.
func TestBehindLength(t *testing.T) {
	x := api.Sample{Offset: 9, At: 90}
	s := store(t, x)
	whole := []*fresh.Store{s, s, nil, s, s, s}
	own := slices.Clone(whole)
	tells(t, whole[1:4], mid, []Vote{{0, x, 2}, {2, x, 2}})
	tells(t, whole[:0], mid, nil)
	if !slices.Equal(whole, own) {
		t.Error(whole)
	}
	votes := votesOf(least, -9, 5, 1, 9, 7, greatest, greatest, 4)
	ownVotes := slices.Clone(votes)
	for from := range votes {
		for upTo := from; upTo <= len(votes); upTo++ {
			chooses(t, votes[from:upTo])
		}
	}
	chooseIs(t, 3, votes[2:5], 5, api.OK)
	chooseIs(t, 4, votes[2:5], 0, api.ErrLack)
	if !slices.Equal(votes, ownVotes) {
		t.Error(votes)
	}
}

// odd is a vote that nobody has.
var odd = Vote{-77, api.Sample{Offset: -77, Delay: -77, At: -77, Slewed: -77}, -77}

// Rule 4: who changes votes that were told, or appends to them, changes nothing of the stores, nor of another answer.
func TestToldVotesAreApart(t *testing.T) {
	stores, want := paper(kinds(t))
	ask := []func() []Vote{
		func() []Vote { return Votes(stores, mid.h, mid.life, mid.slewed) },
		func() []Vote { _, v, _ := Select(2, stores, mid.h, mid.life, mid.slewed); return v },
		func() []Vote { _, v, _ := Select(99, stores, mid.h, mid.life, mid.slewed); return v },
	}
	for _, one := range ask {
		for _, other := range ask {
			first, second := one(), other()
			longer, wider := append(first, odd), append(second, Vote{})
			if !slices.Equal(longer, append(slices.Clone(want), odd)) || !slices.Equal(wider, append(slices.Clone(want), Vote{})) {
				t.Fatalf("%+v and %+v", longer, wider)
			}
			for i := range first {
				first[i] = odd
			}
			if !slices.Equal(second, want) {
				t.Fatalf("%+v", second)
			}
			slices.Reverse(second)
			tells(t, stores, mid, want)
		}
		told := one()
		for _, v := range told[len(told):cap(told)] {
			if v != (Vote{}) {
				t.Fatalf("%+v lies behind", v)
			}
		}
	}
}

// Rule 4: what was handed in may be changed then.
func TestHandedInMayBeChanged(t *testing.T) {
	stores, want := paper(kinds(t))
	_, told, _ := Select(2, stores, mid.h, mid.life, mid.slewed)
	for i, s := range stores {
		s.Add(api.Sample{Offset: 99, Delay: -9, At: 99})
		s.Clear()
		stores[i] = nil
	}
	if !slices.Equal(told, want) {
		t.Errorf("%+v", told)
	}
	tells(t, stores, mid, nil)
}

// Rules 6, 7: calls may be made by many goroutines at a time, each of stores of its own, or of the same votes.
func TestManyGoroutines(t *testing.T) {
	votes := votesOf(9, 8, 7, 6, 5, 4, 3, 2, 1)
	var wait sync.WaitGroup
	for i := range int64(16) {
		wait.Go(func() {
			a, b := fresh.New(), fresh.New()
			for n := range int64(300) {
				a.Add(api.Sample{Offset: i, At: n})
				b.Add(api.Sample{Offset: n, At: n})
				m, v, e := Select(2, []*fresh.Store{a, nil, b}, n, 1, 0)
				if m != min(i, n) || e != api.OK || len(v) != 2 || v[0] != (Vote{0, api.Sample{Offset: i, At: n}, i}) || v[1] != (Vote{2, api.Sample{Offset: n, At: n}, n}) {
					t.Error(i, n, m, v, e)
				}
				if m, e := Choose(9, votes...); m != 5 || e != api.OK {
					t.Error(m, e)
				}
			}
		})
	}
	wait.Wait()
}

// The chapter's examples.
func TestExamples(t *testing.T) {
	l := []Vote{{Offset: 5}, {Offset: 1}, {Offset: 9}}
	chooseIs(t, 3, l, 5, api.OK)
	chooseIs(t, 4, l, 0, api.ErrLack)
}
