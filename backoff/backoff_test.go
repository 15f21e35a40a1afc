package backoff

import (
	"math"
	"math/big"
	"sync"
	"testing"

	"chronobate/api"
)

const (
	least    = math.MinInt
	greatest = math.MaxInt
	minPoll  = 4       // the least number of seconds of a backoff
	maxPoll  = 1024    // the greatest one
	top      = 1 << 30 // the greatest number that Next takes
)

// chance are numbers that look like chance, and are the same each time.
type chance uint64

func (x *chance) next() uint64 {
	*x ^= *x << 13
	*x ^= *x >> 7
	*x ^= *x << 17
	return uint64(*x)
}

// spread is a number of any size.
func (x *chance) spread() int { return int(int64(x.next()) >> (x.next() % 64)) }

// between is a number from a to b.
func (x *chance) between(a, b int) int { return a + int(x.next()%uint64(b-a+1)) }

// paper is a backoff by the document's words.
type paper struct{ least, most, now, times int }

func (p *paper) fail() int {
	p.now = min(2*p.now, p.most)
	p.times++
	return p.now
}

func (p *paper) good() int {
	p.now, p.times = p.least, 0
	return p.now
}

// ends are numbers at the ends of int, at those of the polls, and round 0.
func ends() []int {
	return []int{least, least + 1, -top - 1, -maxPoll, -minPoll, -1, 0, 1, minPoll - 1, minPoll, minPoll + 1, 100, maxPoll - 1, maxPoll, maxPoll + 1, top, top + 1, greatest - 1, greatest}
}

// polls are some numbers of seconds that a backoff may have as its ends.
func polls() []int {
	return []int{4, 5, 6, 7, 8, 9, 15, 16, 17, 20, 31, 33, 63, 64, 65, 100, 127, 255, 256, 257, 511, 512, 513, 700, 1000, 1022, 1023, 1024}
}

// made is a backoff that must be made.
func made(t *testing.T, low, high int) *Backoff {
	t.Helper()
	b, e := New(low, high)
	if b == nil || e != api.OK {
		t.Fatalf("New(%d, %d): %v, %v", low, high, b, e)
	}
	return b
}

// refusedIs holds what New answers against an error.
func refusedIs(t *testing.T, low, high int, want api.Errno) {
	t.Helper()
	if b, e := New(low, high); b != nil || e != want {
		t.Fatalf("New(%d, %d): %v, %v, want none, %v", low, high, b, e, want)
	}
}

// tells holds all that a backoff tells against what it should.
func tells(t *testing.T, b *Backoff, now, times int) {
	t.Helper()
	// Twice, and each behind the other: asking changes nothing.
	for range 2 {
		if n := b.Now(); n != now {
			t.Fatalf("Now: %d, want %d", n, now)
		}
		if n := b.Times(); n != times {
			t.Fatalf("Times: %d, want %d", n, times)
		}
	}
}

// fails holds what Fail answers, and what is told behind it, against what it should.
func fails(t *testing.T, b *Backoff, now, times int) {
	t.Helper()
	if n := b.Fail(); n != now {
		t.Fatalf("Fail: %d, want %d", n, now)
	}
	tells(t, b, now, times)
}

// goods is the same of Good.
func goods(t *testing.T, b *Backoff, now int) {
	t.Helper()
	if n := b.Good(); n != now {
		t.Fatalf("Good: %d, want %d", n, now)
	}
	tells(t, b, now, 0)
}

// nextIs holds what Next answers against what it should.
func nextIs(t *testing.T, now, most, want int) {
	t.Helper()
	if n := Next(now, most); n != want {
		t.Fatalf("Next(%d, %d): %d, want %d", now, most, n, want)
	}
}

// doubled is Next by the document's words, reckoned exactly.
func doubled(now, most int) int {
	if now < 0 || most < 0 || now > top || most > top {
		return 0
	}
	n := new(big.Int).Lsh(big.NewInt(int64(now)), 1)
	if m := big.NewInt(int64(most)); m.Cmp(n) < 0 {
		n = m
	}
	return int(n.Int64())
}

// The document's limits, and the errors' numbers.
func TestWords(t *testing.T) {
	if minPoll != api.MinPoll || maxPoll != api.MaxPoll {
		t.Error(api.MinPoll, api.MaxPoll)
	}
	if api.ErrRange != 3 || api.ErrOrder != 8 || api.OK != 0 {
		t.Error(api.ErrRange, api.ErrOrder, api.OK)
	}
}

// P13.1: a new backoff is its least, at both ends, too.
func TestNew(t *testing.T) {
	for _, low := range polls() {
		for _, high := range polls() {
			if low <= high {
				tells(t, made(t, low, high), low, 0)
			}
		}
	}
}

// P13.1: whatever is handed to New.
func TestNewOfAll(t *testing.T) {
	for low := minPoll - 2; low <= maxPoll+2; low++ {
		for high := minPoll - 2; high <= maxPoll+2; high++ {
			var want api.Errno
			switch {
			case low < minPoll, low > maxPoll, high < minPoll, high > maxPoll:
				want = api.ErrRange
			case low > high:
				want = api.ErrOrder
			}
			b, e := New(low, high)
			if e != want || (b == nil) != (want != api.OK) {
				t.Fatalf("New(%d, %d): %v, %v, want %v", low, high, b, e, want)
			}
		}
	}
}

// outside are numbers that may not be a backoff's ends.
func outside() []int {
	var out []int
	for _, n := range ends() {
		if n < minPoll || n > maxPoll {
			out = append(out, n)
		}
	}
	return out
}

// P13.1: the least, the most, or both are out of what they may be.
func TestErrRange(t *testing.T) {
	for _, n := range outside() {
		for _, other := range polls() {
			refusedIs(t, n, other, api.ErrRange)
			refusedIs(t, other, n, api.ErrRange)
		}
		for _, other := range outside() {
			refusedIs(t, n, other, api.ErrRange)
		}
	}
	for _, c := range [][2]int{{3, 4}, {4, 1025}, {3, 1024}, {3, 1025}, {1024, 1025}, {3, 3}, {1025, 1025}, {least, greatest}} {
		refusedIs(t, c[0], c[1], api.ErrRange)
	}
}

// P13.1, rule 1: ErrRange goes ahead of ErrOrder.
func TestErrRangeGoesAhead(t *testing.T) {
	for _, c := range [][2]int{{4, 3}, {1025, 1024}, {1025, 3}, {1025, 4}, {1024, 3}, {greatest, least}, {greatest, 4}, {greatest, 1024}, {4, least}, {1024, least}, {5, 0}, {0, -1}} {
		refusedIs(t, c[0], c[1], api.ErrRange)
	}
}

// P13.1: the least is above the most, by one and by more.
func TestErrOrder(t *testing.T) {
	for n := minPoll; n < maxPoll; n++ {
		refusedIs(t, n+1, n, api.ErrOrder)
		refusedIs(t, maxPoll, n, api.ErrOrder)
		refusedIs(t, n+1, minPoll, api.ErrOrder)
		tells(t, made(t, n, n), n, 0)
		tells(t, made(t, n, n+1), n, 0)
	}
}

// P13.1: Next, written out.
func TestNext(t *testing.T) {
	for _, c := range [][3]int{
		{0, 0, 0}, {0, 1, 0}, {0, 5, 0}, {0, top, 0},
		{1, 0, 0}, {1, 1, 1}, {1, 2, 2}, {1, 3, 2}, {1, top, 2},
		{4, 7, 7}, {4, 8, 8}, {4, 9, 8}, {4, 20, 8}, {8, 20, 16}, {16, 20, 20}, {20, 20, 20},
		{5, 9, 9}, {5, 10, 10}, {5, 11, 10},
		{30, 20, 20}, {21, 20, 20}, {top, 20, 20}, {top, 0, 0}, {20, 0, 0}, {top, 1, 1},
		{top, top, top}, {top - 1, top, top}, {top, top - 1, top - 1},
		{top/2 - 1, top, top - 2}, {top / 2, top, top}, {top/2 + 1, top, top},
		{top / 2, top - 1, top - 1}, {top/2 - 1, top - 1, top - 2},
		{512, 1024, 1024}, {511, 1024, 1022}, {513, 1024, 1024}, {512, 1023, 1023},
	} {
		nextIs(t, c[0], c[1], c[2])
	}
}

// P13.1: just where twice the number is the most, one below and one above.
func TestNextWhereTwiceIsMost(t *testing.T) {
	for _, n := range []int{1, 2, 3, 4, 5, 7, 8, 100, 511, 512, 1023, 1024, 65535, 1<<28 + 1, top/2 - 1, top / 2} {
		nextIs(t, n, 2*n, 2*n)
		nextIs(t, n, 2*n-1, 2*n-1)
		nextIs(t, n-1, 2*n, 2*n-2)
		nextIs(t, n-1, 2*n-1, 2*n-2)
		nextIs(t, n+1, 2*n, 2*n)
		if 2*n < top {
			nextIs(t, n, 2*n+1, 2*n)
			nextIs(t, n+1, 2*n+1, 2*n+1)
		}
	}
}

// P13.1: 0, if one of them is below 0, or above 2^30, by one and by more.
func TestNextRefuses(t *testing.T) {
	for _, n := range []int{least, least + 1, -top, -maxPoll, -2, -1, top + 1, top + 2, 1 << 31, 1 << 32, 1<<32 + 5, 1 << 62, greatest - 1, greatest} {
		for _, other := range append(ends(), n) {
			nextIs(t, n, other, 0)
			nextIs(t, other, n, 0)
		}
	}
}

// P13.1: Next of any, held against the document's words.
func TestNextOfAll(t *testing.T) {
	for now := -3; now <= 300; now++ {
		for most := -3; most <= 650; most++ {
			nextIs(t, now, most, doubled(now, most))
		}
	}
	for _, now := range ends() {
		for _, most := range ends() {
			nextIs(t, now, most, doubled(now, most))
		}
	}
	x := chance(131)
	for range 50000 {
		now, most := x.spread(), x.spread()
		nextIs(t, now, most, doubled(now, most))
		now, most = x.between(-2, top+2), x.between(-2, top+2)
		nextIs(t, now, most, doubled(now, most))
		near := 2*now + x.between(-2, 2)
		nextIs(t, now, near, doubled(now, near))
	}
}

// P13.2: Fail by Fail, written out.
func TestFail(t *testing.T) {
	for _, c := range []struct {
		low, high int
		want      []int
	}{
		{4, 20, []int{8, 16, 20, 20, 20}},
		{4, 16, []int{8, 16, 16}},
		{4, 15, []int{8, 15, 15}},
		{4, 17, []int{8, 16, 17, 17}},
		{4, 4, []int{4, 4, 4}},
		{4, 5, []int{5, 5}},
		{4, 8, []int{8, 8}},
		{5, 33, []int{10, 20, 33, 33}},
		{7, 13, []int{13, 13}},
		{7, 14, []int{14, 14}},
		{7, 15, []int{14, 15, 15}},
		{4, 1024, []int{8, 16, 32, 64, 128, 256, 512, 1024, 1024}},
		{5, 1024, []int{10, 20, 40, 80, 160, 320, 640, 1024, 1024}},
		{4, 1023, []int{8, 16, 32, 64, 128, 256, 512, 1023, 1023}},
		{512, 1024, []int{1024, 1024}},
		{511, 1024, []int{1022, 1024, 1024}},
		{1023, 1024, []int{1024, 1024}},
		{1024, 1024, []int{1024, 1024}},
	} {
		b := made(t, c.low, c.high)
		tells(t, b, c.low, 0)
		// Behind a Good all is as it was at first.
		for range 3 {
			for i, want := range c.want {
				fails(t, b, want, i+1)
			}
			goods(t, b, c.low)
		}
	}
}

// P13.2: Good of a new backoff, again and again, and behind any number of Fails.
func TestGood(t *testing.T) {
	b := made(t, 7, 900)
	for range 3 {
		goods(t, b, 7)
	}
	for n := range 20 {
		for range n {
			b.Fail()
		}
		goods(t, b, 7)
		goods(t, b, 7)
		fails(t, b, 14, 1)
		fails(t, b, 28, 2)
		goods(t, b, 7)
	}
}

// P13.2: Times counts on when the backoff grows no more, with no Good at all, and from the last Good on.
func TestTimes(t *testing.T) {
	b := made(t, 4, 4)
	for i := range 3000 {
		fails(t, b, 4, i+1)
	}
	goods(t, b, 4)
	for i := range 2000 {
		fails(t, b, 4, i+1)
	}
	b = made(t, 9, 700)
	for range 5000 {
		b.Fail()
	}
	tells(t, b, 700, 5000)
	goods(t, b, 9)
	fails(t, b, 18, 1)
}

// orders goes through all rows of n steps, each true or false.
func orders(n int, do func(row []bool)) {
	row := make([]bool, n)
	for bits := range 1 << n {
		for i := range row {
			row[i] = bits>>i&1 == 1
		}
		do(row)
	}
}

// P13.2, P13.3: Fail and Good in every order, each answer and what is told behind it.
func TestEveryOrder(t *testing.T) {
	for _, c := range [][2]int{{4, 20}, {4, 4}, {5, 1024}, {600, 1024}, {4, 64}} {
		orders(10, func(row []bool) {
			b := made(t, c[0], c[1])
			p := paper{c[0], c[1], c[0], 0}
			for _, fail := range row {
				if fail {
					now := p.fail()
					fails(t, b, now, p.times)
				} else {
					goods(t, b, p.good())
				}
			}
		})
	}
}

// P13.2: what Fail makes of it is what Next is told to be.
func TestFailIsNext(t *testing.T) {
	for _, low := range polls() {
		for _, high := range polls() {
			if low > high {
				continue
			}
			b := made(t, low, high)
			for i := range 12 {
				fails(t, b, Next(b.Now(), high), i+1)
			}
		}
	}
}

// P13.3: from each least to each most: it never is below the one nor above the other, and by ten Fails it is the most.
func TestTenFails(t *testing.T) {
	for low := minPoll; low <= maxPoll; low++ {
		for high := low; high <= maxPoll; high++ {
			b, _ := New(low, high)
			for range 10 {
				was := b.Now()
				if n := b.Fail(); n < was || n < low || n > high {
					t.Fatalf("%d to %d: %d, and behind a Fail %d", low, high, was, n)
				}
			}
			if n := b.Now(); n != high || b.Fail() != high || b.Good() != low {
				t.Fatalf("%d to %d: %d by ten Fails", low, high, n)
			}
		}
	}
}

// P13.2, P13.3: long rows of steps like chance, held against the document's words.
func TestAgainstPaper(t *testing.T) {
	x := chance(13)
	for range 300 {
		low := x.between(minPoll, maxPoll)
		high := x.between(low, maxPoll)
		b, p := made(t, low, high), paper{low, high, low, 0}
		for range 200 {
			if x.between(0, 6) == 0 {
				goods(t, b, p.good())
			} else {
				now := p.fail()
				fails(t, b, now, p.times)
			}
			if n := b.Now(); n < low || n > high {
				t.Fatalf("%d to %d: %d", low, high, n)
			}
		}
	}
}

// The line in brackets: of a nil one each call is 0, in every order.
func TestNil(t *testing.T) {
	var b *Backoff
	calls := []func() int{b.Now, b.Fail, b.Good, b.Times}
	for _, one := range calls {
		for _, other := range calls {
			for range 2 {
				if n, m := one(), other(); n != 0 || m != 0 {
					t.Error(n, m)
				}
			}
		}
	}
	tells(t, b, 0, 0)
	fails(t, b, 0, 0)
	goods(t, b, 0)
	// What New answers beside an error is a nil one, too.
	b, _ = New(9, 8)
	fails(t, b, 0, 0)
}

// Asking changes nothing: a backoff that is asked between is as one that isn't; Next has to do with none.
func TestAskingChangesNothing(t *testing.T) {
	asked, other := made(t, 6, 333), made(t, 6, 333)
	x := chance(17)
	for range 500 {
		for range x.between(0, 3) {
			asked.Now()
			asked.Times()
			Next(asked.Now(), 1000)
			New(4, 1024)
			New(3, 3)
		}
		if x.between(0, 4) == 0 {
			goods(t, asked, other.Good())
		} else {
			now := other.Fail()
			fails(t, asked, now, other.Times())
		}
	}
}

// P2: two backoffs have nothing to do with one another.
func TestTwoBackoffs(t *testing.T) {
	a, b := made(t, 4, 20), made(t, 4, 20)
	fails(t, a, 8, 1)
	tells(t, b, 4, 0)
	fails(t, a, 16, 2)
	fails(t, b, 8, 1)
	goods(t, a, 4)
	tells(t, b, 8, 1)
	fails(t, b, 16, 2)
	tells(t, a, 4, 0)
	goods(t, b, 4)
	fails(t, a, 8, 1)
	tells(t, b, 4, 0)
	// Of other ends than the first two.
	c := made(t, 10, 1000)
	tells(t, a, 8, 1)
	fails(t, c, 20, 1)
	fails(t, a, 16, 2)
	fails(t, a, 20, 3)
	fails(t, c, 40, 2)
	goods(t, c, 10)
	tells(t, a, 20, 3)
	tells(t, b, 4, 0)
	// The second one's making, or a refused one's, changes nothing of the first.
	refusedIs(t, 20, 10, api.ErrOrder)
	tells(t, made(t, 4, 20), 4, 0)
	tells(t, a, 20, 3)
}

// The chapter's examples.
func TestExamples(t *testing.T) {
	b := made(t, 4, 20)
	for i, want := range []int{8, 16, 20, 20} {
		fails(t, b, want, i+1)
	}
	goods(t, b, 4)
}

// Rule 6: calls may be made by many goroutines at a time, each of a backoff of its own.
func TestManyGoroutines(t *testing.T) {
	var wait sync.WaitGroup
	for i := range 16 {
		wait.Go(func() {
			b, e := New(4+i, 1024-i)
			if e != api.OK {
				t.Error(i, e)
				return
			}
			for range 500 {
				b.Fail()
			}
			most, times := b.Now(), b.Times()
			if n := b.Good(); most != 1024-i || times != 500 || n != 4+i || b.Times() != 0 || Next(i, 20) != min(2*i, 20) {
				t.Error(i, most, times, n)
			}
		})
	}
	wait.Wait()
}
