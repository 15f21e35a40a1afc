package peer

import (
	"bytes"
	"math"
	"math/big"
	"slices"
	"sync"
	"testing"

	"chronobate/api"
	"chronobate/backoff"
	"chronobate/conf"
	"chronobate/packet"
	"chronobate/sample"
	"chronobate/sane"
	"chronobate/stamp"
)

const (
	least    = math.MinInt64
	greatest = math.MaxInt64
	maxHard  = 4611686018427387903 // where the hardware counter ends
	second   = 1000000000          // nanoseconds
	milli    = 1000000             // nanoseconds
)

// chance are numbers that look like chance, and are the same each time.
type chance uint64

func (x *chance) next() uint64 {
	*x ^= *x << 13
	*x ^= *x >> 7
	*x ^= *x << 17
	return uint64(*x)
}

// spread is a number of any size.
func (x *chance) spread() int64 { return int64(x.next()) >> (x.next() % 64) }

// between is a number from a to b.
func (x *chance) between(a, b int) int { return a + int(x.next()%uint64(b-a+1)) }

// config is the one of the chapter's example.
func config() api.Config {
	return api.Config{Servers: []int{7}, Quorum: 1, Least: 4, Most: 16, Delay: 1000, Slew: 500}
}

// other is a config of other numbers.
func other(low, high, delay int) api.Config {
	c := config()
	c.Least, c.Most, c.Delay = low, high, delay
	return c
}

// configs are some that may be, of the least and the greatest numbers, too.
func configs() []api.Config {
	return []api.Config{
		config(), other(4, 4, 2000), other(4, 1024, 1), other(5, 33, 999), other(7, 900, 5000), other(1024, 1024, 1022000), other(600, 1024, 598000),
		{Servers: []int{9, 1, 65535}, Quorum: 3, Least: 4, Most: 20, Delay: 1, Slew: 1},
	}
}

// readings are some round 0, round seconds, and at the ends of the counter and of int64.
func readings() []int64 {
	return []int64{
		least, least + 1, -maxHard - 1, -maxHard, -second, -1, 0, 1, milli, second - 1, second, second + 1, 2 * second, 4 * second, 100 * second,
		maxHard - 1024*second, maxHard - 1, maxHard, maxHard + 1, maxHard + 2, maxHard + 1024*second, greatest - 1, greatest,
	}
}

// hards are those of the readings at which the counter can stand.
func hards() []int64 {
	return slices.DeleteFunc(readings(), func(h int64) bool { return h < 0 || h > maxHard })
}

// paper is a peer by the document's words.
type paper struct {
	c           api.Config
	state       int
	due         int64
	sent, clock int64
	cookie      uint64
	wait        int
}

func onPaper(c api.Config, h int64) *paper { return &paper{c: c, due: h, wait: c.Least} }

// next is when something is to be done.
func (p *paper) next() int64 {
	n := int64(maxHard)
	switch p.state {
	case Idle:
		n = p.due
	case Waiting:
		n = p.sent + int64(p.c.Delay)*milli + 1
	}
	return min(n, maxHard)
}

func (p *paper) isDue(h int64) bool { return p.state == Idle && p.due <= h }

// isLate reckons exactly how long ago the query was.
func (p *paper) isLate(h int64) bool {
	gone := new(big.Int).Sub(big.NewInt(h), big.NewInt(p.sent))
	return p.state == Waiting && gone.Cmp(big.NewInt(int64(p.c.Delay)*milli)) > 0
}

func (p *paper) ask(h, clock int64, cookie uint64) api.Errno {
	switch {
	case h < 0, h > maxHard:
		return api.ErrRange
	case !p.isDue(h):
		return api.ErrState
	case cookie == 0:
		return api.ErrArg
	}
	p.state, p.sent, p.clock, p.cookie = Waiting, h, clock, cookie
	return api.OK
}

func (p *paper) late(h int64) bool {
	if !p.isLate(h) {
		return false
	}
	p.wait = min(2*p.wait, p.c.Most)
	p.state, p.due = Idle, p.sent+int64(p.wait)*second
	return true
}

func (p *paper) answer(h, clock, slewed int64, b []byte) (api.Sample, int) {
	switch p.state {
	case Retired:
		return api.Sample{}, api.Retired
	case Idle:
		return api.Sample{}, api.Idle
	}
	got, why := sane.Look(b, p.cookie)
	switch {
	case why == api.Kiss:
		p.state = Retired
		return api.Sample{}, why
	case why != api.Taken:
		return api.Sample{}, why
	case p.isLate(h):
		return api.Sample{}, api.Slow
	}
	p.wait = p.c.Least
	p.state, p.due = Idle, p.sent+int64(p.wait)*second
	offset, delay := sample.Make(p.clock, clock, got.Recv, got.Xmit)
	return api.Sample{Offset: offset, Delay: delay, At: h, Slewed: slewed}, api.Taken
}

// made is a peer that must be made.
func made(t *testing.T, c api.Config, h int64) *Peer {
	t.Helper()
	p, e := New(c, h)
	if p == nil || e != api.OK {
		t.Fatalf("New(%v, %d): %v, %v", c, h, p, e)
	}
	return p
}

// refusedIs holds what New answers against an error.
func refusedIs(t *testing.T, c api.Config, h int64, want api.Errno) {
	t.Helper()
	if p, e := New(c, h); p != nil || e != want {
		t.Fatalf("New(%v, %d): %v, %v, want none, %v", c, h, p, e, want)
	}
}

// tells holds all that a peer tells against what it should.
func tells(t *testing.T, p *Peer, state, wait int, next int64) {
	t.Helper()
	// Twice, and each behind the other: asking changes nothing.
	for range 2 {
		if n := p.State(); n != state {
			t.Fatalf("State: %d, want %d", n, state)
		}
		if n := p.Wait(); n != wait {
			t.Fatalf("Wait: %d, want %d", n, wait)
		}
		if n := p.Next(); n != next {
			t.Fatalf("Next: %d, want %d", n, next)
		}
	}
}

// tellsPaper holds all that a peer tells against the paper.
func tellsPaper(t *testing.T, p *Peer, q *paper) {
	t.Helper()
	tells(t, p, q.state, q.wait, q.next())
	for _, h := range append(readings(), q.next()-1, q.next(), q.next()+1) {
		dueIs(t, p, h, q.isDue(h))
	}
}

func dueIs(t *testing.T, p *Peer, h int64, want bool) {
	t.Helper()
	if is := p.Due(h); is != want {
		t.Fatalf("Due(%d): %v, want %v", h, is, want)
	}
}

func lateIs(t *testing.T, p *Peer, h int64, want bool) {
	t.Helper()
	if is := p.Late(h); is != want {
		t.Fatalf("Late(%d): %v, want %v", h, is, want)
	}
}

// asked is what Ask answers, which must be no error but the query's bytes.
func asked(t *testing.T, p *Peer, h, clock int64, cookie uint64) []byte {
	t.Helper()
	b, e := p.Ask(h, clock, cookie)
	if e != api.OK || !bytes.Equal(b, packet.Query(cookie)) {
		t.Fatalf("Ask(%d, %d, %d): %v, %v", h, clock, cookie, b, e)
	}
	return b
}

// askIs holds what Ask answers against an error.
func askIs(t *testing.T, p *Peer, h int64, cookie uint64, want api.Errno) {
	t.Helper()
	if b, e := p.Ask(h, 3, cookie); len(b) != 0 || e != want {
		t.Fatalf("Ask(%d, 3, %d): %v, %v, want none, %v", h, cookie, b, e, want)
	}
}

// whyIs holds what Answer answers of something that isn't taken against its reason.
func whyIs(t *testing.T, p *Peer, h int64, b []byte, want int) {
	t.Helper()
	if x, why := p.Answer(h, 12345, 678, b); x != (api.Sample{}) || why != want {
		t.Fatalf("Answer(%d, 12345, 678, %v): %v, %d, want none, %d", h, b, x, why, want)
	}
}

// taken is the sample of what must be taken.
func taken(t *testing.T, p *Peer, h, clock, slewed int64, b []byte) api.Sample {
	t.Helper()
	x, why := p.Answer(h, clock, slewed, b)
	if why != api.Taken {
		t.Fatalf("Answer(%d, %d, %d, %v): %v, %d", h, clock, slewed, b, x, why)
	}
	return x
}

// put are the bytes of a packet that is like a good answer to a cookie but for what change does.
func put(cookie uint64, change func(p *api.Packet)) []byte {
	p := api.Packet{Version: 4, Mode: 4, Stratum: 1, Orig: cookie, Recv: stamp.From(5 * second), Xmit: stamp.From(5 * second)}
	change(&p)
	b, e := packet.Put(p)
	if e != api.OK {
		panic(e)
	}
	return b
}

func good(cookie uint64) []byte { return put(cookie, func(*api.Packet) {}) }

func kiss(cookie uint64) []byte { return put(cookie, func(p *api.Packet) { p.Stratum = 0 }) }

// refused is an answer that isn't taken, beside its reason.
type refused struct {
	why int
	b   []byte
}

// wrong are answers to a cookie that aren't taken, of each reason but a kiss.
func wrong(cookie uint64) []refused {
	out := []refused{
		{api.Short, nil}, {api.Short, []byte{}}, {api.Short, good(cookie)[:1]}, {api.Short, good(cookie)[:47]}, {api.Short, kiss(cookie)[:47]},
		{api.Origin, good(cookie + 1)}, {api.Origin, good(cookie - 1)}, {api.Origin, kiss(cookie + 1)}, {api.Origin, good(^cookie)}, {api.Origin, kiss(0)}, {api.Origin, good(0)},
		{api.Leap, put(cookie, func(p *api.Packet) { p.Leap = 3 })},
		{api.Stratum, put(cookie, func(p *api.Packet) { p.Stratum = 16 })},
		{api.Stratum, put(cookie, func(p *api.Packet) { p.Stratum = 255 })},
		{api.Zero, put(cookie, func(p *api.Packet) { p.Recv = 0 })},
		{api.Zero, put(cookie, func(p *api.Packet) { p.Xmit = 0 })},
		{api.Version, make([]byte, 48)}, {api.Mode, packet.Query(cookie)},
	}
	for n := range uint8(8) {
		if n != 4 {
			out = append(out,
				refused{api.Version, put(cookie, func(p *api.Packet) { p.Version = n })},
				refused{api.Mode, put(cookie, func(p *api.Packet) { p.Mode = n })},
				refused{api.Mode, put(cookie, func(p *api.Packet) { p.Mode, p.Stratum = n, 0 })})
		}
	}
	return out
}

// in is a peer of the example's config in a state, which was reached from the reading h on.
func in(t *testing.T, state int, h int64) (*Peer, *paper) {
	t.Helper()
	p, q := made(t, config(), h), onPaper(config(), h)
	if state != Idle {
		asked(t, p, h, 1000, 77)
		q.ask(h, 1000, 77)
	}
	if state == Retired {
		whyIs(t, p, h, kiss(77), api.Kiss)
		q.answer(h, 0, 0, kiss(77))
	}
	tellsPaper(t, p, q)
	return p, q
}

// The document's limits, the states', the reasons' and the errors' numbers.
func TestWords(t *testing.T) {
	if maxHard != api.MaxHard || second != api.Second || milli != api.Milli {
		t.Error(api.MaxHard, api.Second, api.Milli)
	}
	if Idle != 0 || Waiting != 1 || Retired != 2 {
		t.Error(Idle, Waiting, Retired)
	}
	for i, why := range []int{api.Taken, api.Short, api.Unknown, api.Retired, api.Idle, api.Version, api.Mode, api.Origin, api.Kiss, api.Leap, api.Stratum, api.Zero, api.Slow} {
		if why != i {
			t.Error(i, why)
		}
	}
	if api.OK != 0 || api.ErrNil != 1 || api.ErrArg != 2 || api.ErrRange != 3 || api.ErrState != 9 {
		t.Error(api.OK, api.ErrNil, api.ErrArg, api.ErrRange, api.ErrState)
	}
}

// P14.1: what a new peer tells, by every call.
func TestNew(t *testing.T) {
	for _, c := range configs() {
		for _, h := range hards() {
			tells(t, made(t, c, h), Idle, c.Least, h)
			tellsPaper(t, made(t, c, h), onPaper(c, h))
			p := made(t, c, h)
			for _, at := range readings() {
				lateIs(t, p, at, false)
				whyIs(t, p, at, good(77), api.Idle)
				whyIs(t, p, at, kiss(77), api.Idle)
			}
			tellsPaper(t, p, onPaper(c, h))
			asked(t, p, h, 0, 1)
		}
	}
}

// P14.1: Check's errors of a config, each of them, ahead of a reading that may not be.
func TestNewOfWrongConfig(t *testing.T) {
	for _, c := range []struct {
		want   api.Errno
		change func(c *api.Config)
	}{
		{api.ErrLack, func(c *api.Config) { *c = api.Config{} }},
		{api.ErrLack, func(c *api.Config) { c.Servers = nil }},
		{api.ErrLack, func(c *api.Config) { c.Servers, c.Least = []int{}, 0 }},
		{api.ErrFull, func(c *api.Config) { c.Servers = []int{1, 2, 3, 4, 5, 6, 7, 8, 9, 10, 11, 12, 13, 14, 15, 16, 17} }},
		{api.ErrRange, func(c *api.Config) { c.Servers = []int{0} }},
		{api.ErrRange, func(c *api.Config) { c.Servers = []int{1, 65536} }},
		{api.ErrRange, func(c *api.Config) { c.Servers = []int{1, -1, 1} }},
		{api.ErrTwice, func(c *api.Config) { c.Servers = []int{7, 8, 7} }},
		{api.ErrTwice, func(c *api.Config) { c.Servers, c.Quorum = []int{7, 7}, 0 }},
		{api.ErrRange, func(c *api.Config) { c.Quorum = 0 }},
		{api.ErrRange, func(c *api.Config) { c.Quorum = 2 }},
		{api.ErrRange, func(c *api.Config) { c.Least = 3 }},
		{api.ErrRange, func(c *api.Config) { c.Least = math.MinInt }},
		{api.ErrRange, func(c *api.Config) { c.Least, c.Most = 17, 16 }},
		{api.ErrRange, func(c *api.Config) { c.Most = 1025 }},
		{api.ErrRange, func(c *api.Config) { c.Most = 3 }},
		{api.ErrRange, func(c *api.Config) { c.Most = math.MaxInt }},
		{api.ErrRange, func(c *api.Config) { c.Delay = 0 }},
		{api.ErrRange, func(c *api.Config) { c.Delay = 2001 }},
		{api.ErrRange, func(c *api.Config) { c.Delay = math.MaxInt }},
		{api.ErrRange, func(c *api.Config) { c.Slew = 0 }},
		{api.ErrRange, func(c *api.Config) { c.Slew = 501 }},
	} {
		wrong := config()
		c.change(&wrong)
		if e := conf.Check(wrong); e != c.want {
			t.Fatal(wrong, e)
		}
		for _, h := range readings() {
			refusedIs(t, wrong, h, c.want)
		}
	}
}

// P14.1: readings at which the counter can't stand, by one and by more.
func TestNewErrRange(t *testing.T) {
	for _, c := range configs() {
		for _, h := range []int64{least, least + 1, -maxHard, -second, -2, -1, maxHard + 1, maxHard + 2, maxHard + second, greatest - 1, greatest} {
			refusedIs(t, c, h, api.ErrRange)
		}
		tells(t, made(t, c, 0), Idle, c.Least, 0)
		tells(t, made(t, c, maxHard), Idle, c.Least, maxHard)
	}
}

// P14.1, rule 4: the config may be changed when New has answered, and stays as it was handed in; what lies behind its servers plays no part.
func TestConfigIsNotKept(t *testing.T) {
	memory := []int{7, 8, 8, -5}
	c := other(5, 30, 2500)
	c.Servers = memory[:2]
	p, q := made(t, c, 100), onPaper(c, 100)
	if !slices.Equal(memory, []int{7, 8, 8, -5}) || len(c.Servers) != 2 || c.Least != 5 || c.Most != 30 || c.Delay != 2500 {
		t.Fatal(memory, c)
	}
	clear(memory)
	c.Least, c.Most, c.Delay = 0, 0, 0
	tellsPaper(t, p, q)
	q.c = other(5, 30, 2500)
	asked(t, p, 100, 0, 3)
	q.ask(100, 0, 3)
	tellsPaper(t, p, q)
	lateIs(t, p, 100+2500*milli, q.late(100+2500*milli))
	lateIs(t, p, 101+2500*milli, q.late(101+2500*milli))
	tells(t, p, Idle, 10, 100+10*second)
	tellsPaper(t, p, q)
}

// P14.2: due from just when it is on, in no other state.
func TestDue(t *testing.T) {
	for _, at := range hards() {
		p := made(t, config(), at)
		dueIs(t, p, at-1, false)
		dueIs(t, p, at, true)
		dueIs(t, p, at+1, true)
		for _, h := range readings() {
			dueIs(t, p, h, h >= at)
		}
		for _, state := range []int{Waiting, Retired} {
			p, _ := in(t, state, at)
			for _, h := range append(readings(), at-1, at, at+1, p.Next(), p.Next()+1) {
				dueIs(t, p, h, false)
			}
		}
	}
}

// P14.2: due behind a query that is answered, and behind one that isn't.
func TestDueAgain(t *testing.T) {
	p := made(t, config(), 0)
	asked(t, p, 10, 0, 5)
	taken(t, p, 20, 0, 0, good(5))
	for _, h := range []int64{least, -1, 0, 10, 20, 4 * second, 4*second + 9} {
		dueIs(t, p, h, false)
	}
	for _, h := range []int64{4*second + 10, 4*second + 11, maxHard, greatest} {
		dueIs(t, p, h, true)
	}
	asked(t, p, 5*second, 0, 6)
	lateIs(t, p, 50*second, true)
	for _, h := range []int64{least, 0, 5 * second, 9 * second, 13*second - 1} {
		dueIs(t, p, h, false)
	}
	for _, h := range []int64{13 * second, 13*second + 1, 50 * second, greatest} {
		dueIs(t, p, h, true)
	}
}

// P14.2: each of Ask's errors by itself, and the order of them; none changes anything.
func TestAskErrors(t *testing.T) {
	for _, c := range []struct {
		h      int64
		cookie uint64
		want   api.Errno
	}{
		{-1, 5, api.ErrRange}, {maxHard + 1, 5, api.ErrRange}, {least, 5, api.ErrRange}, {greatest, 5, api.ErrRange}, {maxHard + 2, 1, api.ErrRange},
		{10*second - 1, 5, api.ErrState}, {0, 5, api.ErrState}, {10*second - 1, math.MaxUint64, api.ErrState},
		{10 * second, 0, api.ErrArg}, {10*second + 1, 0, api.ErrArg}, {maxHard, 0, api.ErrArg},
		{-1, 0, api.ErrRange}, {maxHard + 1, 0, api.ErrRange}, {least, 0, api.ErrRange}, {greatest, 0, api.ErrRange},
		{10*second - 1, 0, api.ErrState}, {0, 0, api.ErrState},
	} {
		p := made(t, config(), 10*second)
		askIs(t, p, c.h, c.cookie, c.want)
		tellsPaper(t, p, onPaper(config(), 10*second))
		whyIs(t, p, 10*second, good(5), api.Idle)
		asked(t, p, 10*second, 0, 5)
	}
}

// P14.2: a peer that isn't Idle is asked nothing: the query that it waits for stays.
func TestAskElsewhere(t *testing.T) {
	for _, state := range []int{Waiting, Retired} {
		for _, at := range hards() {
			p, q := in(t, state, at)
			for _, h := range append(readings(), at, p.Next()) {
				for _, cookie := range []uint64{0, 1, 77, math.MaxUint64} {
					want := api.ErrState
					if h < 0 || h > maxHard {
						want = api.ErrRange
					}
					askIs(t, p, h, cookie, want)
				}
			}
			tellsPaper(t, p, q)
			if state == Waiting {
				whyIs(t, p, at, good(1), api.Origin)
				offset, delay := sample.Make(1000, 2000, stamp.From(5*second), stamp.From(5*second))
				if x := taken(t, p, at, 2000, 0, good(77)); x != (api.Sample{Offset: offset, Delay: delay, At: at}) {
					t.Fatal(x)
				}
			}
		}
	}
}

// P14.2: Ask at each reading from when it is due on, of any time and cookie, tells Query's bytes, and Waiting is what it is then.
func TestAsk(t *testing.T) {
	for _, at := range hards() {
		for _, h := range hards() {
			if h < at {
				continue
			}
			for _, cookie := range []uint64{1, 2, 255, 256, 258, 1 << 63, math.MaxUint64} {
				for _, clock := range []int64{least, -1, 0, 1, greatest} {
					p := made(t, config(), at)
					asked(t, p, h, clock, cookie)
					tells(t, p, Waiting, 4, min(h+second+1, maxHard))
				}
			}
		}
	}
	p := made(t, config(), 0)
	b := asked(t, p, 0, 0, 258)
	if len(b) != 48 || b[0] != 35 || b[46] != 1 || b[47] != 2 || !bytes.Equal(b[1:46], make([]byte, 45)) {
		t.Error(b)
	}
}

// P14.2, rule 4: the bytes that are told are nobody else's.
func TestAskedBytesAreApart(t *testing.T) {
	p, q := made(t, config(), 0), made(t, config(), 0)
	b := asked(t, p, 0, 0, 258)
	other := asked(t, q, 0, 0, 258)
	clear(b)
	_ = append(b[:0], good(258)...)
	_ = append(b, 1, 2, 3)
	if !bytes.Equal(other, packet.Query(258)) {
		t.Error(other)
	}
	tells(t, p, Waiting, 4, second+1)
	whyIs(t, p, 1, good(257), api.Origin)
	taken(t, p, 1, 0, 0, good(258))
	if got := asked(t, p, 4*second, 0, 259); !bytes.Equal(got, packet.Query(259)) {
		t.Error(got)
	}
}

// P14.1: Next in each state, also where it would be above MaxHard.
func TestNext(t *testing.T) {
	for _, c := range configs() {
		delay := int64(c.Delay) * milli
		for _, at := range append(hards(), maxHard-delay-2, maxHard-delay-1, maxHard-delay, maxHard-delay+1) {
			p := made(t, c, at)
			tells(t, p, Idle, c.Least, at)
			asked(t, p, at, 0, 9)
			tells(t, p, Waiting, c.Least, min(at+delay+1, maxHard))
			whyIs(t, p, at, kiss(9), api.Kiss)
			tells(t, p, Retired, c.Least, maxHard)
		}
	}
}

// P14.1: Next of one that is Idle again, behind both ways that lead there, up to MaxHard and above it.
func TestNextWhenIdleAgain(t *testing.T) {
	for _, c := range configs() {
		for _, wait := range []int64{int64(c.Least), int64(min(2*c.Least, c.Most))} {
			for _, past := range []int64{-second, -2, -1, 0, 1, 2, second, wait * second} {
				at := maxHard - wait*second + past
				p := made(t, c, at)
				asked(t, p, at, 0, 9)
				if wait == int64(c.Least) {
					taken(t, p, at, 0, 0, good(9))
				} else {
					lateIs(t, p, greatest, true)
				}
				tells(t, p, Idle, int(wait), min(at+wait*second, maxHard))
				// What is due behind the counter's end is never due where the counter can stand.
				dueIs(t, p, maxHard, past <= 0)
				dueIs(t, p, at+wait*second-1, false)
				dueIs(t, p, at+wait*second, true)
				dueIs(t, p, greatest, true)
				if past > 0 {
					askIs(t, p, maxHard, 1, api.ErrState)
					askIs(t, p, maxHard+1, 1, api.ErrRange)
				}
			}
		}
	}
}

// P14.3: Delay milliseconds behind the query it isn't late, and one nanosecond behind that it is.
func TestLate(t *testing.T) {
	for _, c := range configs() {
		delay := int64(c.Delay) * milli
		failed := min(2*c.Least, c.Most)
		for _, at := range hards() {
			p := made(t, c, at)
			asked(t, p, at, 5, 9)
			for _, h := range []int64{least, least + 1, -maxHard, -1, 0, at - second, at - 1, at, at + 1, at + delay - 1, at + delay} {
				if h <= at+delay {
					lateIs(t, p, h, false)
				}
			}
			tells(t, p, Waiting, c.Least, min(at+delay+1, maxHard))
			lateIs(t, p, at+delay+1, true)
			tells(t, p, Idle, failed, min(at+int64(failed)*second, maxHard))
			// Only once: it isn't Waiting any more.
			for _, h := range append(readings(), at+delay+1) {
				lateIs(t, p, h, false)
			}
			tells(t, p, Idle, failed, min(at+int64(failed)*second, maxHard))
		}
	}
}

// P14.3: when it is due hangs on when the query was sent, not on when it was given up.
func TestLateAtAnyReading(t *testing.T) {
	for _, at := range hards() {
		for _, h := range readings() {
			p, q := in(t, Waiting, at)
			lateIs(t, p, h, q.late(h))
			tellsPaper(t, p, q)
			if h > at+second {
				tells(t, p, Idle, 8, min(at+8*second, maxHard))
			} else {
				tells(t, p, Waiting, 4, min(at+second+1, maxHard))
				taken(t, p, at, 0, 0, good(77))
			}
		}
	}
}

// P14.3: who isn't Waiting is never late, and stays.
func TestLateElsewhere(t *testing.T) {
	for _, state := range []int{Idle, Retired} {
		for _, at := range hards() {
			p, q := in(t, state, at)
			for _, h := range append(readings(), at, at+second, at+second+1) {
				lateIs(t, p, h, false)
			}
			tellsPaper(t, p, q)
		}
	}
}

// P14.3: the waits of a row of Lates up to Most, and behind an answer that is taken.
func TestWaits(t *testing.T) {
	for _, c := range []struct {
		low, high int
		want      []int
	}{
		{4, 16, []int{8, 16, 16, 16}},
		{4, 20, []int{8, 16, 20, 20}},
		{4, 4, []int{4, 4}},
		{4, 5, []int{5, 5}},
		{7, 900, []int{14, 28, 56, 112, 224, 448, 896, 900, 900}},
		{4, 1024, []int{8, 16, 32, 64, 128, 256, 512, 1024, 1024}},
		{1024, 1024, []int{1024, 1024}},
	} {
		p := made(t, other(c.low, c.high, 2000), 33)
		at := int64(33)
		for range 3 {
			for _, want := range c.want {
				asked(t, p, at, 0, 5)
				lateIs(t, p, at+2*second, false)
				lateIs(t, p, at+2*second+1, true)
				at += int64(want) * second
				tells(t, p, Idle, want, at)
				askIs(t, p, at-1, 5, api.ErrState)
			}
			asked(t, p, at, 0, 5)
			tells(t, p, Waiting, c.want[len(c.want)-1], at+2*second+1)
			taken(t, p, at+2*second, 0, 0, good(5))
			at += int64(c.low) * second
			tells(t, p, Idle, c.low, at)
			askIs(t, p, at-1, 5, api.ErrState)
		}
	}
}

// P14.3: a query that is sent later than it was due counts from when it was sent.
func TestAskedLaterThanDue(t *testing.T) {
	p := made(t, config(), 0)
	asked(t, p, 100*second, 0, 5)
	lateIs(t, p, 101*second, false)
	lateIs(t, p, 300*second, true)
	tells(t, p, Idle, 8, 108*second)
	asked(t, p, 200*second, 0, 6)
	taken(t, p, 200*second+1, 0, 0, good(6))
	tells(t, p, Idle, 4, 204*second)
}

// P14.4: each of Look's reasons, in every state; what isn't taken changes nothing.
func TestReasons(t *testing.T) {
	for _, at := range []int64{0, 10 * second, maxHard} {
		for _, w := range wrong(77) {
			for _, h := range append(readings(), at, at+second, at+second+1) {
				p, q := in(t, Waiting, at)
				whyIs(t, p, h, w.b, w.why)
				tellsPaper(t, p, q)
				// The query that it waits for stays, too.
				offset, delay := sample.Make(1000, 2000, stamp.From(5*second), stamp.From(5*second))
				if x := taken(t, p, at, 2000, 3, good(77)); x != (api.Sample{Offset: offset, Delay: delay, At: at, Slewed: 3}) {
					t.Fatal(x)
				}
				p, q = in(t, Idle, at)
				whyIs(t, p, h, w.b, api.Idle)
				tellsPaper(t, p, q)
				p, q = in(t, Retired, at)
				whyIs(t, p, h, w.b, api.Retired)
				tellsPaper(t, p, q)
			}
		}
	}
}

// P14.4: Idle goes ahead of all that can be told of bytes, also behind a query: an answer is taken once.
func TestIdleGoesAhead(t *testing.T) {
	p := made(t, config(), 0)
	asked(t, p, 0, 0, 5)
	taken(t, p, 1, 0, 0, good(5))
	for _, b := range [][]byte{good(5), kiss(5), nil, good(6), good(0), kiss(0)} {
		whyIs(t, p, 2, b, api.Idle)
	}
	tells(t, p, Idle, 4, 4*second)
	asked(t, p, 4*second, 0, 6)
	whyIs(t, p, 4*second, good(5), api.Origin)
	whyIs(t, p, 4*second, kiss(5), api.Origin)
	lateIs(t, p, 6*second, true)
	for _, b := range [][]byte{good(6), kiss(6), nil, good(5)} {
		whyIs(t, p, 6*second, b, api.Idle)
	}
	tells(t, p, Idle, 8, 12*second)
}

// P14.4: Slow by one nanosecond, and it stays; a reason of Look's goes ahead of it.
func TestSlow(t *testing.T) {
	for _, c := range configs() {
		delay := int64(c.Delay) * milli
		for _, at := range hards() {
			p := made(t, c, at)
			asked(t, p, at, 0, 77)
			for _, h := range []int64{at + delay + 1, at + delay + 2, at + 1100*second, greatest - 1, greatest} {
				whyIs(t, p, h, good(77), api.Slow)
				for _, w := range wrong(77) {
					whyIs(t, p, h, w.b, w.why)
				}
			}
			tells(t, p, Waiting, c.Least, min(at+delay+1, maxHard))
			taken(t, p, at+delay, 0, 0, good(77))
			tells(t, p, Idle, c.Least, min(at+int64(c.Least)*second, maxHard))
		}
	}
}

// P14.4: what is Slow counts as no failure; the answer is given up by Late only.
func TestSlowStays(t *testing.T) {
	p := made(t, config(), 0)
	asked(t, p, 0, 0, 77)
	for range 5 {
		whyIs(t, p, second+1, good(77), api.Slow)
	}
	tells(t, p, Waiting, 4, second+1)
	lateIs(t, p, second, false)
	lateIs(t, p, second+1, true)
	tells(t, p, Idle, 8, 8*second)
}

// P14.4: what is taken, at any reading that isn't late, also at those ahead of the query and below 0.
func TestTaken(t *testing.T) {
	for _, c := range configs() {
		delay := int64(c.Delay) * milli
		for _, at := range hards() {
			for _, h := range append(readings(), at-1, at, at+1, at+delay-1, at+delay) {
				if h > at+delay {
					continue
				}
				p := made(t, c, at)
				asked(t, p, at, 100, 77)
				x := taken(t, p, h, 200, 300, good(77))
				offset, took := sample.Make(100, 200, stamp.From(5*second), stamp.From(5*second))
				if x != (api.Sample{Offset: offset, Delay: took, At: h, Slewed: 300}) {
					t.Fatal(x)
				}
				tells(t, p, Idle, c.Least, min(at+int64(c.Least)*second, maxHard))
			}
		}
	}
}

// P14.4: a sample is Make's of the query's time, the clock's, and both stamps, written out.
func TestSamples(t *testing.T) {
	for _, c := range []struct {
		sent, clock int64
		recv, xmit  int64
		offset      int64
		delay       int64
	}{
		{0, 2 * second, 6 * second, 6 * second, 5 * second, 2 * second},
		{1000 * second, 1001 * second, 1002 * second, 1002 * second, second + second/2, second},
		{10 * second, 14 * second, 11 * second, 13 * second, 0, 2 * second},
		{10 * second, 14 * second, 111 * second, 111 * second, 99 * second, 4 * second},
		{10 * second, 11 * second, 2 * second, 8 * second, -5*second - second/2, 0},
		{50 * second, 50 * second, 10 * second, 10 * second, -40 * second, 0},
	} {
		p := made(t, config(), 0)
		asked(t, p, 9, c.sent, 4)
		b := sane.Good(4, stamp.From(c.recv), stamp.From(c.xmit))
		if x := taken(t, p, 70, c.clock, -8, b); x != (api.Sample{Offset: c.offset, Delay: c.delay, At: 70, Slewed: -8}) {
			t.Error(c, x)
		}
	}
}

// P14.4: times and what was slewed at the ends of int64, stamps at theirs, all held against Make.
func TestSamplesAtTheEnds(t *testing.T) {
	times := []int64{least, least + 1, -maxHard, -second, -1, 0, 1, second, maxHard, greatest - 1, greatest}
	stamps := []uint64{1, 2, 1 << 31, 1 << 32, 1<<63 - 1, 1 << 63, 1<<63 + 1, math.MaxUint64}
	for i, sent := range times {
		for j, clock := range times {
			for _, recv := range stamps {
				for _, xmit := range stamps {
					p := made(t, config(), 0)
					asked(t, p, 0, sent, math.MaxUint64)
					slewed := times[(i+j)%len(times)]
					x := taken(t, p, second, clock, slewed, sane.Good(math.MaxUint64, recv, xmit))
					offset, delay := sample.Make(sent, clock, recv, xmit)
					if x != (api.Sample{Offset: offset, Delay: delay, At: second, Slewed: slewed}) {
						t.Fatal(sent, clock, recv, xmit, x)
					}
				}
			}
		}
	}
}

// P14.4: bytes that are longer than a packet; what stands behind plays no part, and what lies behind their length isn't read.
func TestLongBytes(t *testing.T) {
	for _, more := range []int{1, 2, 48, 1000} {
		p := made(t, config(), 0)
		asked(t, p, 0, 0, 5)
		whyIs(t, p, 1, append(good(6), good(5)...), api.Origin)
		whyIs(t, p, 1, good(5)[:47:48], api.Short)
		whyIs(t, p, 1, good(5)[:0:48], api.Short)
		taken(t, p, 1, 0, 0, append(good(5), bytes.Repeat([]byte{255}, more)...))
	}
}

// Rule 4: the bytes that are handed to Answer stay as they are, and may be changed when it has answered.
func TestBytesStay(t *testing.T) {
	for _, b := range [][]byte{good(5), good(6), kiss(5), nil, make([]byte, 20), append(good(5), 9, 9)} {
		for _, h := range []int64{0, 2 * second} {
			p, q := made(t, config(), 0), onPaper(config(), 0)
			asked(t, p, 0, 0, 5)
			q.ask(0, 0, 5)
			handed := slices.Clone(b)
			x, why := p.Answer(h, 7, 8, handed)
			if !bytes.Equal(handed, b) {
				t.Fatal(handed, b)
			}
			clear(handed)
			if y, want := q.answer(h, 7, 8, b); x != y || why != want {
				t.Fatal(x, why, y, want)
			}
			tellsPaper(t, p, q)
		}
	}
}

// P14.4, P5: of a kiss to its cookie it is Retired, at every reading, also a late one; its backoff stays.
func TestKiss(t *testing.T) {
	for _, at := range hards() {
		for _, h := range append(readings(), at, at+second, at+second+1) {
			p, _ := in(t, Waiting, at)
			whyIs(t, p, h, kiss(77), api.Kiss)
			tells(t, p, Retired, 4, maxHard)
		}
	}
	p := made(t, config(), 0)
	asked(t, p, 0, 0, 5)
	lateIs(t, p, 2*second, true)
	asked(t, p, 8*second, 0, 6)
	// All else of such a packet may be as it will, if the first reasons don't apply.
	whyIs(t, p, 0, put(6, func(p *api.Packet) { *p = api.Packet{Leap: 3, Version: 4, Mode: 4, Orig: 6, Refs: 1} }), api.Kiss)
	tells(t, p, Retired, 8, maxHard)
}

// P5: a kiss to another cookie, or to one that was given up, changes nothing.
func TestKissToAnother(t *testing.T) {
	for _, cookie := range []uint64{0, 1, 76, 78, 77 << 8, math.MaxUint64} {
		for _, h := range readings() {
			p, q := in(t, Waiting, 10*second)
			whyIs(t, p, h, kiss(cookie), api.Origin)
			tellsPaper(t, p, q)
			taken(t, p, 10*second, 0, 0, good(77))
		}
	}
	p := made(t, config(), 0)
	asked(t, p, 0, 0, 5)
	lateIs(t, p, 2*second, true)
	whyIs(t, p, 2*second, kiss(5), api.Idle)
	asked(t, p, 8*second, 0, 6)
	whyIs(t, p, 8*second, kiss(5), api.Origin)
	tells(t, p, Waiting, 8, 9*second+1)
}

// P14.5: who is Retired stays so, by every call.
func TestRetiredStays(t *testing.T) {
	for _, at := range hards() {
		p, q := in(t, Retired, at)
		for _, h := range append(readings(), at) {
			dueIs(t, p, h, false)
			lateIs(t, p, h, false)
			if b, e := p.Ask(h, 0, 5); len(b) != 0 || e == api.OK {
				t.Fatal(b, e)
			}
			for _, b := range [][]byte{nil, good(77), kiss(77), good(5), kiss(5)} {
				whyIs(t, p, h, b, api.Retired)
			}
			tells(t, p, Retired, 4, maxHard)
		}
		tellsPaper(t, p, q)
	}
}

// The line in brackets: of a nil one every call, at all arguments.
func TestNil(t *testing.T) {
	var p *Peer
	made, _ := New(api.Config{}, 0) // what New answers beside an error is a nil one, too
	for _, p := range []*Peer{p, made} {
		for _, h := range readings() {
			dueIs(t, p, h, false)
			lateIs(t, p, h, false)
			// Rule 1: ahead of all other errors.
			for _, cookie := range []uint64{0, 1, math.MaxUint64} {
				askIs(t, p, h, cookie, api.ErrNil)
			}
			for _, b := range [][]byte{nil, {}, make([]byte, 48), good(1), good(0), kiss(1)} {
				whyIs(t, p, h, b, api.Unknown)
			}
		}
		tells(t, p, Retired, 0, 0)
	}
}

// step is a call like chance, of a peer and of the paper; each holds what both answer against each other.
func step(t *testing.T, x *chance, p *Peer, q *paper, h int64) {
	t.Helper()
	cookie := uint64(x.between(0, 3))
	switch x.between(0, 3) {
	case 0:
		clock := x.spread()
		b, e := p.Ask(h, clock, cookie)
		want := q.ask(h, clock, cookie)
		if e != want || e == api.OK && !bytes.Equal(b, packet.Query(cookie)) || e != api.OK && len(b) != 0 {
			t.Fatalf("Ask(%d, %d, %d): %v, %v, want %v", h, clock, cookie, b, e, want)
		}
	case 1:
		lateIs(t, p, h, q.late(h))
	default:
		clock, slewed, b := x.spread(), x.spread(), datagram(x, cookie)
		y, why := p.Answer(h, clock, slewed, b)
		if z, want := q.answer(h, clock, slewed, b); y != z || why != want {
			t.Fatalf("Answer(%d, %d, %d, %v): %v, %d, want %v, %d", h, clock, slewed, b, y, why, z, want)
		}
	}
}

// datagram are bytes like chance: most often a good answer, seldom a kiss.
func datagram(x *chance, cookie uint64) []byte {
	switch n := x.between(0, 40); {
	case n == 0:
		return kiss(cookie)
	case n < 20:
		w := wrong(cookie)
		return w[x.between(0, len(w)-1)].b
	}
	return sane.Good(cookie, x.next(), x.next())
}

// All promises: long rows of calls like chance, held against the document's words.
func TestAgainstPaper(t *testing.T) {
	x := chance(1414)
	for range 400 {
		c := configs()[x.between(0, len(configs())-1)]
		h := hards()[x.between(0, len(hards())-1)]
		p, q := made(t, c, h), onPaper(c, h)
		for range 150 {
			at := h
			switch x.between(0, 5) {
			case 0:
				at = readings()[x.between(0, len(readings())-1)]
			case 1:
				at = x.spread()
			case 2:
				at = q.next() + int64(x.between(-2, 2))
			default:
				h = min(h+int64(x.between(0, c.Least*second)), maxHard)
			}
			step(t, &x, p, q, at)
			tells(t, p, q.state, q.wait, q.next())
			dueIs(t, p, at, q.isDue(at))
			dueIs(t, p, h, q.isDue(h))
		}
		tellsPaper(t, p, q)
	}
}

// P14.5, P6: no two queries are nearer than Least seconds, whatever is called in between.
func TestNeverNearer(t *testing.T) {
	x := chance(6)
	for _, c := range configs() {
		nearest := int64(greatest)
		for range 60 {
			last, h, p := int64(-1), int64(0), made(t, c, 0)
			for i := range 300 {
				h += int64(x.between(0, c.Least*second/3))
				cookie := uint64(i + 1)
				if b, e := p.Ask(h, x.spread(), cookie); e == api.OK {
					if last >= 0 {
						nearest = min(nearest, h-last)
					}
					last = h
					if !bytes.Equal(b, packet.Query(cookie)) {
						t.Fatal(b)
					}
				}
				p.Late(x.spread())
				p.Answer(x.spread(), x.spread(), x.spread(), good(uint64(x.between(i-3, i+2))))
				p.Late(h)
				p.Due(x.spread())
			}
		}
		if nearest < int64(c.Least)*second {
			t.Fatal(c, nearest)
		}
	}
}

// P14.5: whoever asks at every moment at which it may asks just every Least seconds, if all is answered.
func TestJustLeastSeconds(t *testing.T) {
	for _, c := range configs() {
		p := made(t, c, 0)
		for i := range int64(50) {
			at := i * int64(c.Least) * second
			tells(t, p, Idle, c.Least, at)
			asked(t, p, at, 0, 3)
			taken(t, p, at+int64(c.Delay)*milli, 0, 0, good(3))
			for _, h := range []int64{at, at + int64(c.Delay)*milli, at + int64(c.Least)*second - 1} {
				askIs(t, p, h, 3, api.ErrState)
			}
		}
	}
}

// P2: two peers of one config have nothing to do with one another.
func TestTwoPeers(t *testing.T) {
	c := config()
	a, b := made(t, c, 0), made(t, c, 0)
	asked(t, a, 0, 100, 5)
	tells(t, b, Idle, 4, 0)
	whyIs(t, b, 1, good(5), api.Idle)
	asked(t, b, 3, 200, 6)
	whyIs(t, a, 3, good(6), api.Origin)
	whyIs(t, b, 3, kiss(5), api.Origin)
	lateIs(t, a, second+1, true)
	tells(t, a, Idle, 8, 8*second)
	tells(t, b, Waiting, 4, second+4)
	taken(t, b, second+1, 0, 0, good(6))
	tells(t, a, Idle, 8, 8*second)
	tells(t, b, Idle, 4, 4*second+3)
	asked(t, b, 5*second, 0, 7)
	whyIs(t, b, 5*second, kiss(7), api.Kiss)
	tells(t, a, Idle, 8, 8*second)
	asked(t, a, 8*second, 0, 7)
	tells(t, b, Retired, 4, maxHard)
	refusedIs(t, c, -1, api.ErrRange)
	tells(t, made(t, c, 44), Idle, 4, 44)
	tells(t, a, Waiting, 8, 9*second+1)
	tells(t, b, Retired, 4, maxHard)
}

// P2: a peer beside which another one, of other seconds, goes its own way is as one that stands alone.
func TestBesideAnother(t *testing.T) {
	x := chance(99)
	a, b := made(t, config(), 0), made(t, other(5, 900, 1), 70)
	q, r := onPaper(config(), 0), onPaper(other(5, 900, 1), 70)
	h := int64(0)
	for range 3000 {
		h += int64(x.between(0, second))
		if x.between(0, 1) == 0 {
			step(t, &x, a, q, h)
		} else {
			step(t, &x, b, r, h)
		}
		tells(t, a, q.state, q.wait, q.next())
		tells(t, b, r.state, r.wait, r.next())
		if q.state == Retired {
			a, q = made(t, config(), h), onPaper(config(), h)
		}
		if r.state == Retired {
			b, r = made(t, r.c, h), onPaper(r.c, h)
		}
	}
}

// Asking changes nothing: a peer that is asked what it is in between is as one that isn't.
func TestAskingChangesNothing(t *testing.T) {
	x := chance(5)
	for range 100 {
		p, q := made(t, config(), 0), onPaper(config(), 0)
		h := int64(0)
		for range 60 {
			h += int64(x.between(0, 2*second))
			for range x.between(0, 3) {
				p.Due(x.spread())
				p.Due(h)
				p.Next()
				p.State()
				p.Wait()
				New(config(), h)
			}
			step(t, &x, p, q, h)
		}
		tellsPaper(t, p, q)
	}
}

// P14.1: Wait is layer 13's backoff between Least and Most, which fails by Late and is good by what is taken.
func TestWaitIsBackoff(t *testing.T) {
	x := chance(13)
	for _, c := range configs() {
		b, e := backoff.New(c.Least, c.Most)
		if e != api.OK {
			t.Fatal(e)
		}
		p := made(t, c, 0)
		for range 200 {
			at := p.Next()
			asked(t, p, at, 0, 5)
			if x.between(0, 4) == 0 {
				taken(t, p, at, 0, 0, good(5))
				b.Good()
			} else {
				lateIs(t, p, p.Next(), true)
				b.Fail()
			}
			tells(t, p, Idle, b.Now(), at+int64(b.Now())*second)
		}
	}
}

// The chapter's example.
func TestExample(t *testing.T) {
	p := made(t, api.Config{Servers: []int{7}, Quorum: 1, Least: 4, Most: 16, Delay: 1000, Slew: 500}, 0)
	asked(t, p, 0, 0, 1)
	lateIs(t, p, 1000000001, true)
	tells(t, p, Idle, 8, 8000000000)
}

// Rule 6: calls may be made by many goroutines at a time, each of a peer of its own.
func TestManyGoroutines(t *testing.T) {
	var wait sync.WaitGroup
	c := config()
	for i := range int64(16) {
		wait.Go(func() {
			p, e := New(c, i)
			if e != api.OK {
				t.Error(i, e)
				return
			}
			for range 200 {
				at := p.Next()
				p.Ask(at, i, uint64(i+1))
				p.Answer(at, i, i, kiss(uint64(i+2)))
				p.Late(at + second + 1)
			}
			if p.State() != Idle || p.Wait() != 16 || p.Next() != i+(8+199*16)*second {
				t.Error(i, p.State(), p.Wait(), p.Next())
			}
		})
	}
	wait.Wait()
}
