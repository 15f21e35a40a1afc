package daemon

import (
	"bytes"
	"maps"
	"math"
	"math/big"
	"slices"
	"strconv"
	"strings"
	"sync"
	"testing"

	"chronobate/api"
	"chronobate/packet"
	"chronobate/peer"
	"chronobate/quorum"
	"chronobate/sample"
	"chronobate/sane"
	"chronobate/stamp"
)

const (
	least    = math.MinInt64
	greatest = math.MaxInt64
	maxHard  = 4611686018427387903 // where the hardware counter ends
	furthest = 1 << 61             // a clock's first time is no further from 0
	second   = 1000000000          // nanoseconds
	milli    = 1000000             // nanoseconds
)

// chance are numbers that look like chance, and are the same each time.
type chance uint64

func (x *chance) next() uint64 {
	*x ^= *x << 13
	*x ^= *x >> 7
	*x ^= *x << 17
	return uint64(*x)
}

// spread is a number of any size.
func (x *chance) spread() int64 { return int64(x.next()) >> (x.next() % 64) }

// below is a number from 0 on, less than n.
func (x *chance) below(n int64) int64 { return int64(x.next() % uint64(n)) }

// between is a number from a to b.
func (x *chance) between(a, b int) int { return a + int(x.below(int64(b-a+1))) }

// config is the one of the chapter's example, but of these servers, all of which must agree.
func config(servers ...int) api.Config {
	return api.Config{Servers: servers, Quorum: len(servers), Least: 4, Most: 16, Delay: 1000, Slew: 500}
}

// with is a config after a change.
func with(c api.Config, change func(c *api.Config)) api.Config {
	change(&c)
	return c
}

// sixteen are as many servers as there may be, in no order.
func sixteen() []int {
	return []int{65535, 1, 300, 7, 40000, 8, 2, 16, 15, 14, 13, 100, 99, 65534, 9, 6}
}

// configs are some that may be, of the least and the greatest numbers, too.
func configs() []api.Config {
	return []api.Config{
		config(7), config(8, 7), config(sixteen()...),
		{Servers: []int{3, 2, 1}, Quorum: 2, Least: 5, Most: 33, Delay: 2999, Slew: 77},
		{Servers: []int{65535, 1}, Quorum: 1, Least: 4, Most: 4, Delay: 1, Slew: 1},
		{Servers: sixteen(), Quorum: 1, Least: 1024, Most: 1024, Delay: 1022000, Slew: 499},
	}
}

// textOf is a config's text.
func textOf(c api.Config) string {
	var out []string
	for _, addr := range c.Servers {
		out = append(out, "server "+strconv.Itoa(addr))
	}
	out = append(out, "quorum "+strconv.Itoa(c.Quorum), "poll "+strconv.Itoa(c.Least)+" "+strconv.Itoa(c.Most), "delay "+strconv.Itoa(c.Delay), "slew "+strconv.Itoa(c.Slew))
	return strings.Join(out, "\n") + "\n"
}

// readings are some round 0, round seconds, and at the ends of the counter and of int64.
func readings() []int64 {
	return []int64{
		least, least + 1, -maxHard - 1, -maxHard, -second, -1, 0, 1, 1999, 2000, milli, second, 4 * second, 100 * second,
		maxHard - 1024*second, maxHard - 1, maxHard, maxHard + 1, maxHard + 2, greatest - 1, greatest,
	}
}

// hards are those of the readings at which the counter can stand.
func hards() []int64 {
	return slices.DeleteFunc(readings(), func(h int64) bool { return h < 0 || h > maxHard })
}

// noAddrs are addresses that no server of the tests has, and most of which none may have.
func noAddrs() []int {
	return []int{math.MinInt, -65535, -7, -1, 0, 5, 10, 65536, 65543, 1<<32 + 7, math.MaxInt}
}

// hand is a clock by the document's words: what it is at a reading.
type hand struct{ ppm, h, time, left, all int64 }

// share is the floor of d times the rate by a million, for a d that isn't below 0.
func (k hand) share(d int64) int64 {
	n := new(big.Int).Mul(big.NewInt(d), big.NewInt(k.ppm))
	return n.Div(n, big.NewInt(1000000)).Int64()
}

func (k hand) at(h int64) hand {
	d := h - k.h
	by := max(-k.share(d), min(k.share(d), k.left))
	return hand{k.ppm, h, k.time + d + by, k.left - by, k.all + by}
}

func (k hand) read(h int64) (int64, api.Errno) {
	switch {
	case h > maxHard:
		return 0, api.ErrRange
	case h < k.h:
		return 0, api.ErrOrder
	}
	return k.at(h).time, api.OK
}

// server is one by the document's words, with the samples of it that are kept.
type server struct {
	addr, state, wait int
	due, sent, clock  int64
	cookie            uint64
	kept              []api.Sample
}

// paper is a daemon by the document's words.
type paper struct {
	c       api.Config
	last    int64
	hand    hand
	servers []*server
	draw    uint64
	counts  [13]int
	offset  int64
	votes   []quorum.Vote
	chosen  int
}

func onPaper(c api.Config, h, clock int64) *paper {
	q := &paper{c: c, last: h, hand: hand{ppm: int64(c.Slew), h: h, time: clock}}
	for _, addr := range c.Servers {
		q.servers = append(q.servers, &server{addr: addr, wait: c.Least, due: h})
	}
	return q
}

// find is the server of an address, or nil.
func (q *paper) find(addr int) *server {
	for _, s := range q.servers {
		if s.addr == addr {
			return s
		}
	}
	return nil
}

func (q *paper) do(e api.Event) (api.Out, api.Errno) {
	switch {
	case e.Kind != 0 && e.Kind != 1:
		return api.Out{}, api.ErrKind
	case e.H < 0, e.H > maxHard:
		return api.Out{}, api.ErrRange
	case e.H < q.last:
		return api.Out{}, api.ErrOrder
	}
	q.last = e.H
	var out api.Out
	if e.Kind == 0 {
		out.Sends = q.tick(e.H, e.Draw)
	} else {
		out.Reason = q.hear(e.H, e.Addr, e.Data)
		q.counts[out.Reason]++
	}
	out.Clock = q.hand.at(e.H).time
	out.Wake = q.wake()
	return out, api.OK
}

func (q *paper) tick(h int64, draw uint64) []api.Send {
	if draw != 0 {
		q.draw = draw
	}
	for _, s := range q.servers {
		if q.isLate(s, h) {
			s.wait = min(2*s.wait, q.c.Most)
			s.state, s.due = 0, s.sent+int64(s.wait)*second
		}
	}
	var sends []api.Send
	for _, s := range q.servers {
		if q.draw != 0 && s.state == 0 && h >= s.due {
			s.state, s.sent, s.clock, s.cookie = 1, h, q.hand.at(h).time, q.draw
			sends = append(sends, api.Send{Addr: s.addr, Data: packet.Query(q.draw)})
		}
	}
	return sends
}

func (q *paper) isLate(s *server, h int64) bool {
	return s.state == 1 && h-s.sent > int64(q.c.Delay)*milli
}

func (q *paper) hear(h int64, addr int, b []byte) int {
	if len(b) < 48 {
		return api.Short
	}
	s := q.find(addr)
	switch {
	case s == nil:
		return api.Unknown
	case s.state == 2:
		return api.Retired
	case s.state == 0:
		return api.Idle
	}
	got, why := sane.Look(b, s.cookie)
	switch {
	case why == api.Kiss:
		s.state = 2
		return why
	case why != api.Taken:
		return why
	case q.isLate(s, h):
		return api.Slow
	}
	s.wait = q.c.Least
	s.state, s.due = 0, s.sent+int64(s.wait)*second
	now := q.hand.at(h)
	offset, delay := sample.Make(s.clock, now.time, got.Recv, got.Xmit)
	s.kept = append(s.kept, api.Sample{Offset: offset, Delay: delay, At: h, Slewed: now.all})
	if len(s.kept) > 8 {
		s.kept = s.kept[1:]
	}
	q.choose(now)
	return api.Taken
}

// choose looks for a choice, when the clock is so.
func (q *paper) choose(now hand) {
	var votes []quorum.Vote
	var offsets []int64
	for i, s := range q.servers {
		found := false
		var best api.Sample
		for _, x := range s.kept {
			// The later one of two goes ahead: it came later, or at the same reading.
			if now.h-x.At <= 2000000000*int64(q.c.Most) && (!found || x.Delay <= best.Delay) {
				best, found = x, true
			}
		}
		if found {
			offset := best.Offset - (now.all - best.Slewed)
			votes = append(votes, quorum.Vote{Server: i, Sample: best, Offset: offset})
			offsets = append(offsets, offset)
		}
	}
	if len(votes) < q.c.Quorum {
		return
	}
	slices.Sort(offsets)
	q.offset, q.votes = offsets[(len(offsets)-1)/2], votes
	q.chosen++
	q.hand = now
	q.hand.left = max(-furthest, min(furthest, q.offset))
}

func (q *paper) wake() int64 {
	next := int64(maxHard)
	for _, s := range q.servers {
		switch s.state {
		case 0:
			next = min(next, s.due)
		case 1:
			next = min(next, s.sent+int64(q.c.Delay)*milli+1)
		}
	}
	return next
}

// text is that of the counts.
func (q *paper) text() string {
	names := []string{"taken", "short", "unknown", "retired", "idle", "version", "mode", "origin", "kiss", "leap", "stratum", "zero", "slow"}
	var out []string
	for i, n := range q.counts {
		if n > 0 {
			out = append(out, names[i]+" "+strconv.Itoa(n))
		}
	}
	return strings.Join(out, ", ")
}

// sameConfig holds two configs against each other.
func sameConfig(a, b api.Config) bool {
	five := func(c api.Config) [5]int { return [5]int{c.Quorum, c.Least, c.Most, c.Delay, c.Slew} }
	return slices.Equal(a.Servers, b.Servers) && five(a) == five(b)
}

// sameOut holds two answers of Do against each other.
func sameOut(a, b api.Out) bool {
	same := func(a, b api.Send) bool { return a.Addr == b.Addr && bytes.Equal(a.Data, b.Data) }
	return slices.EqualFunc(a.Sends, b.Sends, same) && a.Clock == b.Clock && a.Wake == b.Wake && a.Reason == b.Reason
}

// both are a daemon and a paper that are told the same.
type both struct {
	t *testing.T
	d *Daemon
	q *paper
}

// made is a daemon that must be made, of a config.
func made(t *testing.T, c api.Config, h, clock int64) *Daemon {
	t.Helper()
	d, n, e := New(textOf(c), h, clock)
	if d == nil || n != 0 || e != api.OK {
		t.Fatalf("New(%v, %d, %d): %v, %d, %v", c, h, clock, d, n, e)
	}
	return d
}

// begun are both of a config, and tell the same.
func begun(t *testing.T, c api.Config, h, clock int64) *both {
	t.Helper()
	b := &both{t, made(t, c, h, clock), onPaper(c, h, clock)}
	b.tell()
	return b
}

// do is what Do answers of an event, which the paper must answer, too. What was handed in and what was answered is written over behind that.
func (b *both) do(e api.Event) (api.Out, api.Errno) {
	b.t.Helper()
	want, wrong := b.q.do(e)
	data := slices.Clone(e.Data)
	handed := e
	handed.Data = data
	out, err := b.d.Do(handed)
	if err != wrong || !sameOut(out, want) {
		b.t.Fatalf("Do(%+v): %+v, %v, want %+v, %v", e, out, err, want, wrong)
	}
	if !bytes.Equal(data, e.Data) {
		b.t.Fatalf("Do(%+v) wrote over its bytes: %v", e, data)
	}
	spoil(data)
	for i, s := range out.Sends {
		spoil(s.Data)
		out.Sends[i] = api.Send{}
	}
	return want, wrong
}

// spoil writes over some bytes.
func spoil(data []byte) {
	for i := range data {
		data[i] ^= 0xa5
	}
}

// done is what Do answers of an event that must not be refused; all that is told then is held against the paper.
func (b *both) done(e api.Event) api.Out {
	b.t.Helper()
	out, err := b.do(e)
	if err != api.OK {
		b.t.Fatalf("Do(%+v): %v", e, err)
	}
	b.tell()
	return out
}

// tick is a tick, at which so many queries must be sent.
func (b *both) tick(h int64, draw uint64, sends int) api.Out {
	b.t.Helper()
	out := b.done(api.Event{Kind: api.Tick, H: h, Draw: draw})
	if len(out.Sends) != sends {
		b.t.Fatalf("tick(%d, %d): %v, want %d", h, draw, out.Sends, sends)
	}
	return out
}

// hear is a datagram, of which this reason must be told.
func (b *both) hear(h int64, addr int, data []byte, why int) api.Out {
	b.t.Helper()
	out := b.done(api.Event{Kind: api.Datagram, H: h, Addr: addr, Data: data})
	if out.Reason != why {
		b.t.Fatalf("datagram(%d, %d, %v): %d, want %d", h, addr, data, out.Reason, why)
	}
	return out
}

// wrong is an event that must be refused, by which nothing changes.
func (b *both) wrong(e api.Event, want api.Errno) {
	b.t.Helper()
	if out, err := b.do(e); err != want || !sameOut(out, api.Out{}) {
		b.t.Fatalf("Do(%+v): %+v, %v, want %v", e, out, err, want)
	}
	b.tell()
}

// tell holds all that the daemon tells against the paper, twice: asking changes nothing.
func (b *both) tell() {
	b.t.Helper()
	for range 2 {
		b.tellNumbers()
		b.tellServers()
		b.tellTimes()
	}
}

func (b *both) tellNumbers() {
	b.t.Helper()
	for why, n := range b.q.counts {
		if got := b.d.Count(why); got != n {
			b.t.Fatalf("Count(%d): %d, want %d", why, got, n)
		}
	}
	for _, why := range []int{math.MinInt, -1, 13, 14, math.MaxInt} {
		if got := b.d.Count(why); got != 0 {
			b.t.Fatalf("Count(%d): %d", why, got)
		}
	}
	if got := b.d.Counts(); got != b.q.text() {
		b.t.Fatalf("Counts: %q, want %q", got, b.q.text())
	}
	if got := b.d.Chosen(); got != b.q.chosen {
		b.t.Fatalf("Chosen: %d, want %d", got, b.q.chosen)
	}
	offset, votes := b.d.Last()
	if offset != b.q.offset || !slices.Equal(votes, b.q.votes) {
		b.t.Fatalf("Last: %d, %+v, want %d, %+v", offset, votes, b.q.offset, b.q.votes)
	}
	clear(votes)
}

func (b *both) tellServers() {
	b.t.Helper()
	c := b.d.Config()
	if !sameConfig(c, b.q.c) {
		b.t.Fatalf("Config: %v, want %v", c, b.q.c)
	}
	clear(c.Servers)
	for _, s := range b.q.servers {
		if got := b.d.State(s.addr); got != s.state {
			b.t.Fatalf("State(%d): %d, want %d", s.addr, got, s.state)
		}
	}
	for _, addr := range noAddrs() {
		if got := b.d.State(addr); got != peer.Retired {
			b.t.Fatalf("State(%d): %d", addr, got)
		}
	}
}

func (b *both) tellTimes() {
	b.t.Helper()
	base, last := b.q.hand.h, b.q.last
	near := []int64{base - second, base - 1, base, base + 1, last - 1, last, last + 1, last + 1999, last + 2000, last + second, last + 1000*second}
	for _, h := range append(readings(), near...) {
		want, wrong := b.q.hand.read(h)
		if got, e := b.d.Read(h); got != want || e != wrong {
			b.t.Fatalf("Read(%d): %d, %v, want %d, %v", h, got, e, want, wrong)
		}
	}
}

// refusedIs holds what New answers against an error.
func refusedIs(t *testing.T, text string, h, clock int64, line int, want api.Errno) {
	t.Helper()
	if d, n, e := New(text, h, clock); d != nil || n != line || e != want {
		t.Fatalf("New(%q, %d, %d): %v, %d, %v, want none, %d, %v", text, h, clock, d, n, e, line, want)
	}
}

// good is an answer to a cookie, of a server whose time is this both ways.
func good(cookie uint64, time int64) []byte {
	return sane.Good(cookie, stamp.From(time), stamp.From(time))
}

// put are the bytes of a packet that is like a good answer to a cookie but for what change does.
func put(cookie uint64, change func(p *api.Packet)) []byte {
	p := api.Packet{Version: 4, Mode: 4, Stratum: 1, Orig: cookie, Recv: stamp.From(5 * second), Xmit: stamp.From(5 * second)}
	change(&p)
	b, e := packet.Put(p)
	if e != api.OK {
		panic(e)
	}
	return b
}

func kiss(cookie uint64) []byte { return put(cookie, func(p *api.Packet) { p.Stratum = 0 }) }

// refused is an answer that isn't taken, beside its reason.
type refused struct {
	why int
	b   []byte
}

// wrongs are answers to a cookie that aren't taken, of each reason that a server that is waited for gives, but a kiss.
func wrongs(cookie uint64) []refused {
	return []refused{
		{api.Short, nil}, {api.Short, []byte{}}, {api.Short, good(cookie, 5)[:1]}, {api.Short, good(cookie, second)[:47]}, {api.Short, kiss(cookie)[:47]},
		{api.Version, put(cookie, func(p *api.Packet) { p.Version = 3 })}, {api.Version, make([]byte, 48)},
		{api.Mode, put(cookie, func(p *api.Packet) { p.Mode = 5 })}, {api.Mode, packet.Query(cookie)},
		{api.Origin, good(cookie+1, second)}, {api.Origin, kiss(cookie + 1)}, {api.Origin, good(0, second)}, {api.Origin, kiss(0)},
		{api.Leap, put(cookie, func(p *api.Packet) { p.Leap = 3 })},
		{api.Stratum, put(cookie, func(p *api.Packet) { p.Stratum = 16 })},
		{api.Zero, put(cookie, func(p *api.Packet) { p.Recv = 0 })}, {api.Zero, put(cookie, func(p *api.Packet) { p.Xmit = 0 })},
	}
}

// The document's limits, the kinds', the states', the reasons' and the errors' numbers.
func TestWords(t *testing.T) {
	if maxHard != api.MaxHard || second != api.Second || milli != api.Milli || api.PacketLen != 48 {
		t.Error(api.MaxHard, api.Second, api.Milli, api.PacketLen)
	}
	if api.Tick != 0 || api.Datagram != 1 || peer.Idle != 0 || peer.Waiting != 1 || peer.Retired != 2 {
		t.Error(api.Tick, api.Datagram, peer.Idle, peer.Waiting, peer.Retired)
	}
	for i, why := range []int{api.Taken, api.Short, api.Unknown, api.Retired, api.Idle, api.Version, api.Mode, api.Origin, api.Kiss, api.Leap, api.Stratum, api.Zero, api.Slow, api.Reasons} {
		if why != i {
			t.Error(i, why)
		}
	}
	if api.OK != 0 || api.ErrNil != 1 || api.ErrRange != 3 || api.ErrOrder != 8 || api.ErrKind != 10 {
		t.Error(api.OK, api.ErrNil, api.ErrRange, api.ErrOrder, api.ErrKind)
	}
}

// P17.1: what a new daemon tells, by every call, at any reading and time.
func TestNew(t *testing.T) {
	for _, c := range configs() {
		for _, h := range hards() {
			for _, clock := range []int64{-furthest, -1, 0, 1, 50 * second, furthest} {
				b := begun(t, c, h, clock)
				offset, votes := b.d.Last()
				if b.d.Chosen() != 0 || offset != 0 || len(votes) != 0 || b.d.Counts() != "" || !sameConfig(b.d.Config(), c) {
					t.Fatal(b.d.Chosen(), offset, votes, b.d.Counts(), b.d.Config())
				}
				for _, addr := range c.Servers {
					if n := b.d.State(addr); n != peer.Idle {
						t.Fatal(addr, n)
					}
				}
				if n, e := b.d.Read(h); n != clock || e != api.OK {
					t.Fatal(n, e)
				}
				// Its peers are due from h on, and no draw is there yet.
				if out := b.tick(h, 0, 0); out.Clock != clock || out.Wake != h || out.Reason != api.Taken {
					t.Fatal(out)
				}
				b.tick(h, 1, len(c.Servers))
			}
		}
	}
}

// P17.1: each way in which a text can be wrong, with its line, ahead of a reading and a time that may not be.
func TestNewOfWrongText(t *testing.T) {
	const rest = "quorum 1\npoll 4 16\ndelay 1000\nslew 500\n"
	full := ""
	for i := range 17 {
		full += "server " + strconv.Itoa(i+1) + "\n"
	}
	for _, c := range []struct {
		text string
		line int
		want api.Errno
	}{
		{"", 0, api.ErrLack}, {"# nothing\n", 0, api.ErrLack}, {"server 7\n", 0, api.ErrLack}, {rest, 0, api.ErrLack},
		{"server 7\nquorum 1\npoll 4 16\ndelay 1000\n", 0, api.ErrLack},
		{"server 7\r\n" + rest, 1, api.ErrForm}, {"server 7\n\x00" + rest, 2, api.ErrForm}, {"server 7\n" + rest + "\x7f", 6, api.ErrForm},
		{"server 7\nx", 2, api.ErrKind}, {"server 7\n" + rest + "servers 8", 6, api.ErrKind}, {"\n\nServer 7\n" + rest, 3, api.ErrKind},
		{"server\n" + rest, 1, api.ErrForm}, {"server 7 8\n" + rest, 1, api.ErrForm}, {"server 7\nquorum 1\npoll 4\n", 3, api.ErrForm}, {"server 7\n" + rest + "delay", 6, api.ErrForm},
		{"server x\n" + rest, 1, api.ErrForm}, {"server 07\n" + rest, 1, api.ErrForm}, {"server -1\n" + rest, 1, api.ErrForm},
		{"server 7\n" + rest + "server 7\n", 6, api.ErrTwice}, {"server 7\n" + rest + "slew 500\n", 6, api.ErrTwice},
		{full + rest, 17, api.ErrFull},
		{"server 0\n" + rest, 0, api.ErrRange}, {"server 65536\n" + rest, 0, api.ErrRange},
		{"server 7\nquorum 2\npoll 4 16\ndelay 1000\nslew 500\n", 0, api.ErrRange}, {"server 7\nquorum 0\npoll 4 16\ndelay 1000\nslew 500\n", 0, api.ErrRange},
		{"server 7\nquorum 1\npoll 3 16\ndelay 1000\nslew 500\n", 0, api.ErrRange}, {"server 7\nquorum 1\npoll 16 4\ndelay 1000\nslew 500\n", 0, api.ErrRange},
		{"server 7\nquorum 1\npoll 4 1025\ndelay 1000\nslew 500\n", 0, api.ErrRange}, {"server 7\nquorum 1\npoll 4 16\ndelay 2001\nslew 500\n", 0, api.ErrRange},
		{"server 7\nquorum 1\npoll 4 16\ndelay 0\nslew 500\n", 0, api.ErrRange}, {"server 7\nquorum 1\npoll 4 16\ndelay 1000\nslew 0\n", 0, api.ErrRange},
		{"server 7\nquorum 1\npoll 4 16\ndelay 1000\nslew 501\n", 0, api.ErrRange},
	} {
		for _, h := range readings() {
			for _, clock := range []int64{0, least, -furthest - 1, furthest + 1, greatest} {
				refusedIs(t, c.text, h, clock, c.line, c.want)
			}
		}
	}
}

// P17.1: readings and times that may not be, by one and by more; the ends that may be.
func TestNewErrRange(t *testing.T) {
	for _, c := range configs() {
		for _, h := range []int64{least, least + 1, -maxHard, -second, -2, -1, maxHard + 1, maxHard + 2, greatest - 1, greatest} {
			for _, clock := range []int64{0, furthest, furthest + 1, least} {
				refusedIs(t, textOf(c), h, clock, 0, api.ErrRange)
			}
		}
		for _, clock := range []int64{least, least + 1, -furthest - 2, -furthest - 1, furthest + 1, furthest + 2, greatest - 1, greatest} {
			for _, h := range []int64{0, second, maxHard} {
				refusedIs(t, textOf(c), h, clock, 0, api.ErrRange)
			}
		}
		for _, h := range []int64{0, maxHard} {
			for _, clock := range []int64{-furthest, furthest} {
				begun(t, c, h, clock)
			}
		}
	}
}

// P17.1: a text whose lines are in another order, with remarks; servers stand in theirs.
func TestNewOfAnyOrder(t *testing.T) {
	d, n, e := New("slew 77 # parts\n\n  server 9\ndelay 5\nquorum 2\nserver 3\npoll 4 8\nserver 65535", 0, 0)
	if d == nil || n != 0 || e != api.OK {
		t.Fatal(d, n, e)
	}
	c := api.Config{Servers: []int{9, 3, 65535}, Quorum: 2, Least: 4, Most: 8, Delay: 5, Slew: 77}
	b := &both{t, d, onPaper(c, 0, 0)}
	b.tell()
	out := b.tick(0, 5, 3)
	if out.Sends[0].Addr != 9 || out.Sends[1].Addr != 3 || out.Sends[2].Addr != 65535 || out.Wake != 5*milli+1 {
		t.Error(out)
	}
}

// noKinds are numbers that are no event's kind.
func noKinds() []int {
	return []int{math.MinInt, -256, -2, -1, 2, 3, 10, 255, 256, 257, 1 << 32, math.MaxInt}
}

// P17.2: each error by itself, and the order of them; none changes anything.
func TestDoErrors(t *testing.T) {
	outside := []int64{least, least + 1, -maxHard, -1, maxHard + 1, maxHard + 2, greatest}
	ahead := []int64{0, 1, second, 100*second - 1}
	b := begun(t, config(7, 8), 100*second, 0)
	for range 3 {
		for _, kind := range noKinds() {
			for _, h := range slices.Concat(outside, ahead, []int64{100 * second, 101 * second, maxHard}) {
				b.wrong(api.Event{Kind: kind, H: h, Addr: 7, Draw: 9, Data: good(5, second)}, api.ErrKind)
			}
		}
		for kind := range 2 {
			for _, h := range outside {
				b.wrong(api.Event{Kind: kind, H: h, Addr: 7, Draw: 9, Data: good(5, second)}, api.ErrRange)
			}
			for _, h := range ahead {
				b.wrong(api.Event{Kind: kind, H: h, Addr: 7, Draw: 9, Data: good(5, second)}, api.ErrOrder)
			}
		}
		// The same again at the same reading, and behind queries that are waited for.
		b.hear(100*second, 9, good(5, second), api.Unknown)
		b.tick(100*second, 5, len(b.q.c.Servers)*(1-b.q.find(7).state))
	}
	b.hear(100*second, 7, good(5, second), api.Taken)
}

// P17.2: ErrOrder of what is ahead of the last event of either kind, also of one by which nothing else changed, but not of a refused one.
func TestDoErrOrder(t *testing.T) {
	b := begun(t, config(7), 10, 0)
	b.wrong(api.Event{H: 9, Draw: 5}, api.ErrOrder)
	b.tick(10, 0, 0)
	b.tick(10, 0, 0)
	b.tick(12, 0, 0)
	b.wrong(api.Event{H: 11, Draw: 5}, api.ErrOrder)
	b.wrong(api.Event{H: 10, Draw: 5}, api.ErrOrder)
	b.wrong(api.Event{Kind: 1, H: 11}, api.ErrOrder)
	b.hear(20, 7, nil, api.Short)
	b.wrong(api.Event{H: 19, Draw: 5}, api.ErrOrder)
	b.wrong(api.Event{Kind: 1, H: 12}, api.ErrOrder)
	b.hear(20, 9, good(5, 5), api.Unknown)
	b.wrong(api.Event{Kind: 2, H: 50}, api.ErrKind)
	b.wrong(api.Event{H: maxHard + 1}, api.ErrRange)
	b.tick(20, 5, 1)
	b.hear(30, 7, good(5, second), api.Taken)
	b.wrong(api.Event{H: 29, Draw: 5}, api.ErrOrder)
	b.tick(maxHard, 0, 1)
	b.wrong(api.Event{H: maxHard - 1}, api.ErrOrder)
	b.tick(maxHard, 0, 0)
	b.hear(maxHard, 7, good(5, second), api.Taken)
}

// P17.2: a refused tick's draw isn't the last one; a refused datagram isn't counted, and is still waited for.
func TestRefusedChangesNothing(t *testing.T) {
	b := begun(t, config(7), 10*second, 0)
	for _, e := range []api.Event{{Kind: 2, H: 10 * second, Draw: 5}, {H: -1, Draw: 5}, {H: maxHard + 1, Draw: 5}, {H: 10*second - 1, Draw: 5}} {
		if _, err := b.do(e); err == api.OK {
			t.Fatal(e)
		}
		b.tick(10*second, 0, 0)
	}
	b.tick(10*second, 6, 1)
	for _, e := range []api.Event{{H: maxHard + 1, Draw: 7}, {H: 10*second - 1, Draw: 7}, {Kind: -1, H: 99 * second, Draw: 7}} {
		if _, err := b.do(e); err == api.OK {
			t.Fatal(e)
		}
	}
	for _, data := range [][]byte{nil, good(6, second), kiss(6)} {
		b.wrong(api.Event{Kind: 1, H: 10*second - 1, Addr: 7, Data: data}, api.ErrOrder)
		b.wrong(api.Event{Kind: 1, H: maxHard + 1, Addr: 7, Data: data}, api.ErrRange)
		b.wrong(api.Event{Kind: 3, H: 10 * second, Addr: 7, Data: data}, api.ErrKind)
	}
	if b.d.Counts() != "" || b.d.State(7) != peer.Waiting {
		t.Error(b.d.Counts(), b.d.State(7))
	}
	b.hear(10*second, 7, good(6, second), api.Taken)
	if out := b.tick(14*second, 0, 1); !bytes.Equal(out.Sends[0].Data, packet.Query(6)) {
		t.Error(out)
	}
}

// P17.2, the chapter's head: without a draw nothing is asked; the last one that isn't 0 holds, also where it came with a tick at which nobody was due.
func TestDraws(t *testing.T) {
	b := begun(t, config(7), 0, 0)
	for _, h := range []int64{0, 1, second, 100 * second} {
		if out := b.tick(h, 0, 0); out.Wake != 0 || out.Clock != h {
			t.Error(out)
		}
	}
	query := func(h int64, draw, want uint64) {
		t.Helper()
		if out := b.tick(h, draw, 1); out.Sends[0].Addr != 7 || !bytes.Equal(out.Sends[0].Data, packet.Query(want)) {
			t.Error(out)
		}
		b.hear(h, 7, good(want, second), api.Taken)
	}
	query(100*second, 9, 9)
	query(104*second, 0, 9)
	b.tick(105*second, 0, 0)
	b.tick(106*second, 11, 0)
	b.tick(107*second, 0, 0)
	query(108*second, 0, 11)
	b.tick(109*second, 12, 0)
	b.tick(109*second, 13, 0)
	query(112*second, 0, 13)
	query(116*second, math.MaxUint64, math.MaxUint64)
	query(120*second, 0, math.MaxUint64)
	query(124*second, 1, 1)
	query(128*second, 1<<63, 1<<63)
}

// The chapter's head: a datagram's Draw plays no part, nor do a tick's Addr and Data.
func TestOtherFields(t *testing.T) {
	b := begun(t, config(7), 0, 0)
	b.done(api.Event{Kind: 1, H: 0, Addr: 7, Draw: 5, Data: good(5, second)})
	b.tick(0, 0, 0)
	b.done(api.Event{H: 0, Draw: 6, Addr: 7, Data: good(6, second)})
	if b.d.Counts() != "idle 1" || b.d.State(7) != peer.Waiting {
		t.Error(b.d.Counts(), b.d.State(7))
	}
	b.done(api.Event{H: 1, Addr: 99, Data: kiss(6)})
	out := b.done(api.Event{Kind: 1, H: 2, Addr: 7, Draw: 8, Data: good(6, second)})
	if out.Reason != api.Taken || b.d.Counts() != "taken 1, idle 1" {
		t.Error(out, b.d.Counts())
	}
	if out := b.tick(4*second, 0, 1); !bytes.Equal(out.Sends[0].Data, packet.Query(6)) {
		t.Error(out)
	}
}

// The chapter's head: an answer is late one nanosecond behind Delay, not at it, and by a tick alone; all that are late are given up.
func TestLate(t *testing.T) {
	for _, delay := range []int{1, 1000, 2000} {
		c := with(config(7, 8, 9), func(c *api.Config) { c.Delay = delay })
		late := int64(delay) * milli
		b := begun(t, c, second, 0)
		b.tick(second, 5, 3)
		b.tick(second+late-1, 0, 0)
		if out := b.tick(second+late, 0, 0); out.Wake != second+late+1 || b.d.State(7) != peer.Waiting {
			t.Error(out)
		}
		// A datagram gives nothing up.
		b.hear(second+late+1, 8, good(5, second), api.Slow)
		b.hear(second+late+1, 7, nil, api.Short)
		if b.d.State(7) != peer.Waiting || b.d.State(8) != peer.Waiting {
			t.Error(b.d.State(7), b.d.State(8))
		}
		if out := b.tick(second+late+1, 0, 0); out.Wake != 9*second || b.d.State(7) != peer.Idle || b.d.State(9) != peer.Idle {
			t.Error(out, b.d.State(7))
		}
		b.hear(second+late+1, 8, good(5, second), api.Idle)
		b.tick(9*second-1, 0, 0)
		b.tick(9*second, 0, 3)
	}
}

// The chapter's head: who is late and due by the same tick is asked by it, and by none ahead.
func TestLateAndDue(t *testing.T) {
	b := begun(t, config(7, 8), 0, 0)
	b.tick(0, 5, 2)
	if out := b.tick(8*second, 0, 2); out.Wake != 9*second+1 {
		t.Error(out)
	}
	b.hear(8*second+1, 8, good(5, second), api.Taken)
	// 7's wait is 16 seconds by now, 8's 4.
	out := b.tick(24*second-1, 0, 1)
	if out.Sends[0].Addr != 8 {
		t.Error(out)
	}
	out = b.tick(24*second, 6, 1)
	if out.Sends[0].Addr != 7 || !bytes.Equal(out.Sends[0].Data, packet.Query(6)) {
		t.Error(out)
	}
	b.tick(maxHard, 0, 2)
}

// The chapter's head: a late one that isn't due yet is given up, also without a new draw, and none of those that are Retired is asked.
func TestRetiredIsNotAsked(t *testing.T) {
	b := begun(t, config(7, 8, 9), 0, 0)
	b.tick(0, 5, 3)
	b.hear(0, 8, kiss(5), api.Kiss)
	for _, h := range []int64{second + 1, 8 * second, 9*second + 1, 100 * second, 1000 * second, maxHard} {
		for _, s := range b.done(api.Event{H: h, Draw: 6}).Sends {
			if s.Addr == 8 {
				t.Error(h, s)
			}
		}
		if b.d.State(8) != peer.Retired {
			t.Error(b.d.State(8))
		}
	}
}

// P17.2: what is sent, in the config's order: 48 bytes each, none of them another's.
func TestSends(t *testing.T) {
	for _, c := range configs() {
		d := made(t, c, 0, 0)
		out, e := d.Do(api.Event{H: 0, Draw: 258})
		if e != api.OK || len(out.Sends) != len(c.Servers) {
			t.Fatal(out, e)
		}
		for i, s := range out.Sends {
			if s.Addr != c.Servers[i] || len(s.Data) != 48 || !bytes.Equal(s.Data, packet.Query(258)) {
				t.Fatal(i, s)
			}
			spoil(s.Data)
			_ = append(s.Data, 1, 2, 3)
			_ = append(s.Data[:0], good(1, 2)...)
		}
		clear(out.Sends)
		for _, addr := range c.Servers {
			if out, e := d.Do(api.Event{Kind: 1, H: 0, Addr: addr, Data: good(258, second)}); e != api.OK || out.Reason != api.Taken || len(out.Sends) != 0 {
				t.Fatal(out, e)
			}
		}
		out, e = d.Do(api.Event{H: int64(c.Least) * second})
		if e != api.OK || len(out.Sends) != len(c.Servers) || !bytes.Equal(out.Sends[0].Data, packet.Query(258)) {
			t.Fatal(out, e)
		}
	}
}

// P17.2: some are due and others aren't: those that are stand in the config's order.
func TestSomeAreDue(t *testing.T) {
	c := with(config(sixteen()...), func(c *api.Config) { c.Quorum = 1 })
	b := begun(t, c, 0, 0)
	b.tick(0, 5, 16)
	var answered []int
	for i, addr := range c.Servers {
		if i%3 == 1 {
			b.hear(1, addr, good(5, second), api.Taken)
			answered = append(answered, addr)
		}
	}
	var asked []int
	for _, s := range b.tick(4*second, 6, len(answered)).Sends {
		asked = append(asked, s.Addr)
	}
	if !slices.Equal(asked, answered) {
		t.Error(asked, answered)
	}
	asked = nil
	for _, s := range b.tick(8*second, 0, 11).Sends {
		asked = append(asked, s.Addr)
		if slices.Contains(answered, s.Addr) || !bytes.Equal(s.Data, packet.Query(6)) {
			t.Error(s)
		}
	}
	if !slices.IsSortedFunc(asked, func(a, b int) int { return slices.Index(c.Servers, a) - slices.Index(c.Servers, b) }) {
		t.Error(asked)
	}
}

// P17.2: Wake, of one peer in each state, and where it would be above MaxHard.
func TestWakeOfOne(t *testing.T) {
	for _, h := range append(hards(), maxHard-4*second-1, maxHard-4*second, maxHard-4*second+1, maxHard-second-2, maxHard-second-1, maxHard-second) {
		b := begun(t, config(7), h, 0)
		if out := b.tick(h, 0, 0); out.Wake != h {
			t.Error(h, out)
		}
		if out := b.tick(h, 5, 1); out.Wake != min(h+second+1, maxHard) {
			t.Error(h, out)
		}
		if out := b.hear(h, 7, nil, api.Short); out.Wake != min(h+second+1, maxHard) {
			t.Error(h, out)
		}
		if out := b.hear(h, 7, good(5, second), api.Taken); out.Wake != min(h+4*second, maxHard) {
			t.Error(h, out)
		}
		if h > maxHard-4*second {
			b.tick(maxHard, 0, 0)
			continue
		}
		b.tick(h+4*second, 0, 1)
		if out := b.hear(h+4*second, 7, kiss(5), api.Kiss); out.Wake != maxHard {
			t.Error(h, out)
		}
		if out := b.tick(maxHard, 6, 0); out.Wake != maxHard {
			t.Error(h, out)
		}
	}
}

// P17.2: Wake of many: the least one, wherever in the order it stands.
func TestWakeOfMany(t *testing.T) {
	for i := range 3 {
		addrs := []int{7, 8, 9}
		b := begun(t, config(addrs...), 0, 0)
		b.tick(0, 5, 3)
		for j, addr := range addrs {
			if j != i {
				b.hear(1, addr, good(5, second), api.Taken)
			}
		}
		// One is Waiting, the others are due later.
		if out := b.tick(second, 0, 0); out.Wake != second+1 {
			t.Error(out)
		}
		// It is due later than these.
		if out := b.tick(second+1, 0, 0); out.Wake != 4*second {
			t.Error(out)
		}
		b.tick(4*second, 6, 2)
		for j, addr := range addrs {
			if j != i {
				b.hear(4*second, addr, kiss(6), api.Kiss)
			}
		}
		// The others are Retired, it is Idle.
		if out := b.tick(5*second, 0, 0); out.Wake != 8*second {
			t.Error(out)
		}
		b.tick(8*second, 7, 1)
		if out := b.hear(8*second, addrs[i], kiss(7), api.Kiss); out.Wake != maxHard {
			t.Error(out)
		}
	}
}

// The chapter's head: bytes of any number, from servers in each state and from none; Short goes ahead of all.
func TestLengths(t *testing.T) {
	for state := range 3 {
		b := begun(t, config(7), 0, 0)
		if state > 0 {
			b.tick(0, 5, 1)
		}
		if state == 2 {
			b.hear(0, 7, kiss(5), api.Kiss)
		}
		for n := range 48 {
			for _, addr := range append(noAddrs(), 7) {
				b.hear(0, addr, good(5, second)[:n], api.Short)
			}
		}
		for _, more := range []int{0, 1, 2, 47, 48, 1000} {
			for _, addr := range noAddrs() {
				b.hear(0, addr, append(good(5, second), make([]byte, more)...), api.Unknown)
			}
		}
		if b.d.State(7) != state || b.d.Chosen() != 0 {
			t.Error(state, b.d.State(7))
		}
	}
	for _, more := range []int{0, 1, 2, 47, 48, 1000} {
		b := begun(t, config(7), 0, 0)
		b.tick(0, 5, 1)
		b.hear(0, 7, append(good(5, second), make([]byte, more)...), api.Taken)
	}
}

// P17.2: each reason that a peer tells; what isn't taken changes nothing but its count.
func TestReasons(t *testing.T) {
	for _, w := range append(wrongs(77), refused{api.Slow, good(77, second)}) {
		b := begun(t, config(7, 8), 0, 0)
		b.hear(0, 7, good(77, second), api.Idle)
		b.tick(0, 77, 2)
		h := int64(second)
		if w.why == api.Slow {
			h++
		}
		want := b.q.wake()
		for i := range 3 {
			if out := b.hear(h, 8, w.b, w.why); out.Wake != want || out.Clock != h {
				t.Error(out)
			}
			if n := b.d.Count(w.why); n != i+1 {
				t.Error(w, n)
			}
		}
		if b.d.Chosen() != 0 || b.d.State(7) != peer.Waiting || b.d.State(8) != peer.Waiting {
			t.Error(b.d.Chosen(), b.d.State(7), b.d.State(8))
		}
		if w.why == api.Slow {
			continue
		}
		b.hear(h, 8, good(77, second), api.Taken)
		b.hear(h, 8, w.b, map[bool]int{true: api.Short, false: api.Idle}[w.why == api.Short])
		b.hear(h, 7, kiss(77), api.Kiss)
		b.hear(h, 7, w.b, map[bool]int{true: api.Short, false: api.Retired}[w.why == api.Short])
	}
}

// The chapter's head: each datagram is counted once, a tick never.
func TestCounted(t *testing.T) {
	b := begun(t, config(7, 8), 0, 0)
	for i := range 20 {
		b.tick(0, 0, 0)
		b.hear(0, 9, good(5, second), api.Unknown)
		b.hear(0, 7, nil, api.Short)
		if want := "short " + strconv.Itoa(i+1) + ", unknown " + strconv.Itoa(i+1); b.d.Counts() != want {
			t.Fatal(b.d.Counts(), want)
		}
	}
	b.tick(0, 5, 2)
	b.tick(0, 5, 0)
	b.hear(0, 7, good(5, second), api.Taken)
	b.hear(0, 8, good(5, second), api.Taken)
	b.tick(second, 5, 0)
	if b.d.Counts() != "taken 2, short 20, unknown 20" || b.d.Count(api.Taken) != 2 || b.d.Count(api.Unknown) != 20 || b.d.Count(api.Kiss) != 0 {
		t.Error(b.d.Counts())
	}
}

// P17.3: Count of numbers that are no reason.
func TestCountOfNoReason(t *testing.T) {
	b := begun(t, config(7), 0, 0)
	b.hear(0, 7, nil, api.Short)
	for _, why := range []int{math.MinInt, -13, -1, 13, 14, 256, 257, 1<<32 + 1, math.MaxInt} {
		if n := b.d.Count(why); n != 0 {
			t.Error(why, n)
		}
	}
	if n := b.d.Count(api.Short); n != 1 {
		t.Error(n)
	}
}

// P17.4: a kiss retires the server that was asked, and no other; a kiss to another cookie, or from another, none.
func TestKiss(t *testing.T) {
	b := begun(t, config(7, 8), 0, 0)
	b.hear(0, 7, kiss(5), api.Idle)
	b.tick(0, 5, 2)
	b.hear(0, 7, kiss(6), api.Origin)
	b.hear(0, 9, kiss(5), api.Unknown)
	b.hear(0, 7, kiss(5)[:47], api.Short)
	if b.d.State(7) != peer.Waiting || b.d.State(8) != peer.Waiting {
		t.Error(b.d.State(7), b.d.State(8))
	}
	// A late one counts just so.
	b.hear(3*second, 7, kiss(5), api.Kiss)
	if b.d.State(7) != peer.Retired || b.d.State(8) != peer.Waiting {
		t.Error(b.d.State(7), b.d.State(8))
	}
	for _, data := range [][]byte{kiss(5), good(5, second), kiss(6), make([]byte, 48)} {
		b.hear(3*second, 7, data, api.Retired)
	}
	b.hear(3*second, 7, nil, api.Short)
	if out := b.tick(100*second, 7, 1); out.Sends[0].Addr != 8 {
		t.Error(out)
	}
	b.hear(100*second, 8, good(7, second), api.Taken)
	if b.d.Chosen() != 0 || b.d.Counts() != "taken 1, short 2, unknown 1, retired 4, idle 1, origin 1, kiss 1" {
		t.Error(b.d.Chosen(), b.d.Counts())
	}
}

// The chapter's head: the samples of who is Retired play their part, as long as they are fresh.
func TestRetiredVotes(t *testing.T) {
	b := begun(t, config(7, 8), 0, 0)
	b.tick(0, 5, 2)
	b.hear(0, 7, good(5, 2*second), api.Taken)
	b.tick(4*second, 6, 1)
	b.hear(4*second, 7, kiss(6), api.Kiss)
	b.tick(8*second, 7, 1)
	b.hear(8*second, 8, good(7, 30*second), api.Taken)
	if offset, votes := b.d.Last(); b.d.Chosen() != 1 || len(votes) != 2 || offset != 2*second {
		t.Error(offset, votes)
	}
}

// lastIs holds what was chosen, of how many votes, and how often against what it should.
func (b *both) lastIs(times int, want int64, servers ...int) {
	b.t.Helper()
	offset, votes := b.d.Last()
	var of []int
	for _, v := range votes {
		of = append(of, v.Server)
	}
	if b.d.Chosen() != times || offset != want || !slices.Equal(of, servers) {
		b.t.Fatalf("Last: %d, %+v, by %d, want %d, %v, by %d", offset, votes, b.d.Chosen(), want, servers, times)
	}
}

// P17.3: fewer votes than the quorum choose nothing; just as many do, and so do more: the lower one in the middle.
func TestQuorum(t *testing.T) {
	c := with(config(25, 24, 23, 22, 21), func(c *api.Config) { c.Quorum = 3 })
	b := begun(t, c, 0, 0)
	b.tick(0, 9, 5)
	b.hear(0, 22, good(9, 50*second), api.Taken)
	b.lastIs(0, 0)
	b.hear(0, 24, good(9, 10*second), api.Taken)
	b.lastIs(0, 0)
	b.hear(0, 21, good(9, 20*second), api.Taken)
	b.lastIs(1, 20*second, 1, 3, 4)
	b.hear(0, 23, good(9, 30*second), api.Taken)
	b.lastIs(2, 20*second, 1, 2, 3, 4)
	b.hear(0, 25, good(9, 90*second), api.Taken)
	b.lastIs(3, 30*second, 0, 1, 2, 3, 4)
}

// P17.3: with a quorum of one each that is taken chooses; with one of all it waits for the last.
func TestQuorumAtTheEnds(t *testing.T) {
	c := config(sixteen()...)
	for _, q := range []int{1, 2, 15, 16} {
		c.Quorum = q
		b := begun(t, c, 0, 0)
		b.tick(0, 9, 16)
		for i, addr := range c.Servers {
			b.hear(0, addr, good(9, int64(i+1)*second), api.Taken)
			if b.d.Chosen() != max(0, i+2-q) {
				t.Fatal(q, i, b.d.Chosen())
			}
		}
		if offset, votes := b.d.Last(); offset != 8*second || len(votes) != 16 {
			t.Error(offset, votes)
		}
	}
}

// P17.3: what was chosen stays where a later one isn't chosen, and where a datagram isn't taken.
func TestLastStays(t *testing.T) {
	b := begun(t, config(7, 8), 0, 0)
	b.tick(0, 9, 2)
	b.hear(0, 7, good(9, 4*second), api.Taken)
	b.hear(0, 8, good(9, 6*second), api.Taken)
	b.lastIs(1, 4*second, 0, 1)
	b.tick(1000*second, 0, 2)
	b.lastIs(1, 4*second, 0, 1)
	for _, w := range wrongs(9) {
		b.hear(1000*second, 7, w.b, w.why)
		b.lastIs(1, 4*second, 0, 1)
	}
	// Taken, but the other server's sample is too old.
	before, _ := b.d.Read(2000 * second)
	b.hear(1000*second, 7, good(9, 2000*second), api.Taken)
	b.lastIs(1, 4*second, 0, 1)
	if after, e := b.d.Read(2000 * second); after != before || e != api.OK {
		t.Error(before, after, e)
	}
	b.hear(1000*second, 8, kiss(9), api.Kiss)
	b.lastIs(1, 4*second, 0, 1)
}

// P17.3, the chapter's head: a sample is fresh for 2000000000 times Most, and not one nanosecond longer.
func TestFresh(t *testing.T) {
	for _, most := range []int{4, 16, 1024} {
		c := with(config(7, 8), func(c *api.Config) { c.Most = most })
		life := 2000000000 * int64(most)
		for _, came := range []int64{0, 1, 700 * milli} {
			for past := int64(-1); past <= 1; past++ {
				b := begun(t, c, 0, 0)
				b.tick(0, 9, 2)
				b.hear(came, 7, good(9, 3*second), api.Taken)
				b.tick(came+life-1, 0, 2)
				b.hear(came+life+past, 8, good(9, 5*second), api.Taken)
				if past <= 0 {
					if _, votes := b.d.Last(); b.d.Chosen() != 1 || len(votes) != 2 || votes[0].Sample.At != came || votes[1].Sample.At != came+life+past {
						t.Fatal(most, past, b.d.Chosen(), votes)
					}
				} else {
					b.lastIs(0, 0)
				}
			}
		}
	}
}

// The chapter's head: a server's vote is its best sample: the one that took least, not its last one; once that isn't fresh any more, the next best.
func TestBestSample(t *testing.T) {
	b := begun(t, config(7), 0, 0)
	b.tick(0, 9, 1)
	b.hear(100*milli, 7, good(9, 3*second), api.Taken)
	b.lastIs(1, 2950*milli, 0)
	b.tick(4*second, 0, 1)
	b.hear(4*second+900*milli, 7, good(9, 100*second), api.Taken)
	// 4.8 seconds of 500 millionths were corrected since then.
	b.lastIs(2, 2950*milli-2400000, 0)
	b.tick(30*second, 0, 1)
	b.hear(30*second+800*milli, 7, good(9, 200*second), api.Taken)
	if _, votes := b.d.Last(); votes[0].Sample.Delay > 200*milli || votes[0].Sample.At != 100*milli {
		t.Error(votes)
	}
	b.tick(36*second, 0, 1)
	b.hear(36*second+950*milli, 7, good(9, 300*second), api.Taken)
	if _, votes := b.d.Last(); votes[0].Sample.At != 30*second+800*milli {
		t.Error(votes)
	}
}

// The chapter's head: of a server eight samples are kept, and an older one plays no part, however good it was.
func TestEightAreKept(t *testing.T) {
	c := with(config(7), func(c *api.Config) { c.Most = 1024 })
	b := begun(t, c, 0, 0)
	b.tick(0, 9, 1)
	b.hear(0, 7, good(9, 3*second), api.Taken)
	for i := int64(1); i <= 8; i++ {
		b.tick(4*i*second, 0, 1)
		b.hear(4*i*second+100*milli+i, 7, good(9, 4*i*second), api.Taken)
		_, votes := b.d.Last()
		if want := map[bool]int64{true: 0, false: 4*second + 100*milli + 1}[i < 8]; votes[0].Sample.At != want {
			t.Fatal(i, votes)
		}
	}
}

// P17.2, P17.3: the clock's times behind a choice: it goes by the rate faster or slower till all is corrected; the answer by which it was has the same Clock as without.
func TestAdjust(t *testing.T) {
	for _, c := range []struct {
		slew   int
		stamp  uint64 // the server's, both ways
		offset int64
		reads  map[int64]int64
	}{
		{500, 10 << 32, 10 * second, map[int64]int64{0: 0, 1: 1, 1999: 1999, 2000: 2001, second: second + 500000, 20000 * second: 20010 * second, 20001 * second: 20011 * second}},
		{500, 1<<64 - 10<<32, -10 * second, map[int64]int64{0: 0, 1: 1, 1999: 1999, 2000: 1999, second: second - 500000, 20000 * second: 19990 * second, 20001 * second: 19991 * second}},
		{1, 13, 3, map[int64]int64{milli - 1: milli - 1, milli: milli + 1, 3 * milli: 3*milli + 3, 100 * milli: 100*milli + 3}},
		{1, 1<<64 - 12, -3, map[int64]int64{milli - 1: milli - 1, milli: milli - 1, 3 * milli: 3*milli - 3, 100 * milli: 100*milli - 3}},
		{500, 1, 0, map[int64]int64{0: 0, 2000: 2000, maxHard: maxHard}},
	} {
		from := with(config(7), func(x *api.Config) { x.Slew = c.slew })
		b := begun(t, from, 0, 0)
		b.tick(0, 9, 1)
		before, _ := b.d.Read(0)
		out := b.hear(0, 7, sane.Good(9, c.stamp, c.stamp), api.Taken)
		b.lastIs(1, c.offset, 0)
		if out.Clock != before || out.Clock != 0 {
			t.Error(out)
		}
		for h, want := range c.reads {
			if got, e := b.d.Read(h); got != want || e != api.OK {
				t.Errorf("slew %d, offset %d: Read(%d): %d, %v, want %d", c.slew, c.offset, h, got, e, want)
			}
		}
	}
}

// The chapter's head: the next choice forgets what was left; what was slewed till then is taken off older samples.
func TestAdjustAgain(t *testing.T) {
	b := begun(t, config(7, 8), 0, 0)
	b.tick(0, 9, 2)
	b.hear(0, 7, good(9, 10*second), api.Taken)
	b.hear(0, 8, good(9, 10*second), api.Taken)
	b.lastIs(1, 10*second, 0, 1)
	// Four seconds later the clock went two milliseconds too far: the server's time is the clock's plus just that much less.
	out := b.tick(4*second, 0, 2)
	if out.Clock != 4*second+2*milli {
		t.Error(out)
	}
	out = b.hear(4*second, 7, good(9, 14*second), api.Taken)
	if b.lastIs(2, 10*second-2*milli, 0, 1); out.Clock != 4*second+2*milli {
		t.Error(out)
	}
	if _, votes := b.d.Last(); votes[0].Sample != (api.Sample{Offset: 10*second - 2*milli, At: 4 * second, Slewed: 2 * milli}) || votes[1].Sample != (api.Sample{Offset: 10 * second}) {
		t.Error(votes)
	}
	for h, want := range map[int64]int64{4 * second: 4*second + 2*milli, 5 * second: 5*second + 2500000, 30000 * second: 30010 * second} {
		if got, e := b.d.Read(h); got != want || e != api.OK {
			t.Error(h, got, e)
		}
	}
}

// P17.3: readings that may not be; of those ahead of the last event such ahead of the clock's base only.
func TestRead(t *testing.T) {
	b := begun(t, config(7), 100, 50)
	read := func(h, want int64, wrong api.Errno) {
		t.Helper()
		if got, e := b.d.Read(h); got != want || e != wrong {
			t.Errorf("Read(%d): %d, %v, want %d, %v", h, got, e, want, wrong)
		}
	}
	b.tick(second, 9, 1)
	read(100, 50, api.OK)
	read(99, 0, api.ErrOrder)
	read(0, 0, api.ErrOrder)
	read(-1, 0, api.ErrOrder)
	read(least, 0, api.ErrOrder)
	read(second-1, second-51, api.OK)
	read(second, second-50, api.OK)
	read(maxHard, maxHard-50, api.OK)
	read(maxHard+1, 0, api.ErrRange)
	read(greatest, 0, api.ErrRange)
	b.hear(second+7, 7, good(9, 5*second), api.Taken)
	read(second+6, 0, api.ErrOrder)
	read(second+7, second-43, api.OK)
	b.tick(4*second, 0, 0)
	read(second+7, second-43, api.OK)
	read(second+6, 0, api.ErrOrder)
	read(greatest, 0, api.ErrRange)
}

// P17.3: reading changes nothing: what is read behind the last event hinders no event ahead of that.
func TestReadChangesNothing(t *testing.T) {
	b := begun(t, config(7), 0, 0)
	for _, h := range readings() {
		b.d.Read(h)
	}
	b.tick(0, 9, 1)
	b.d.Read(maxHard)
	b.hear(1, 7, good(9, 5*second), api.Taken)
	b.d.Read(maxHard)
	b.tick(4*second, 0, 1)
}

// P17.3, rule 4: what Config and Last answer is nobody else's.
func TestAnswersAreApart(t *testing.T) {
	c := config(7, 8)
	b := begun(t, c, 0, 0)
	b.tick(0, 9, 2)
	b.hear(0, 7, good(9, 3*second), api.Taken)
	b.hear(0, 8, good(9, 4*second), api.Taken)
	got, again := b.d.Config(), b.d.Config()
	_, votes := b.d.Last()
	_, more := b.d.Last()
	got.Servers[0], got.Quorum = 99, 0
	got.Servers = append(got.Servers[:1], 98, 97)
	votes[0] = quorum.Vote{Server: 5, Offset: 6}
	_ = append(votes[:1], quorum.Vote{Server: 7})
	if !sameConfig(again, c) || !slices.Equal(more, b.q.votes) {
		t.Error(again, more)
	}
	b.tell()
	if b.d.State(99) != peer.Retired || b.d.State(7) != peer.Idle {
		t.Error(b.d.State(99), b.d.State(7))
	}
	if out := b.tick(4*second, 0, 2); out.Sends[0].Addr != 7 {
		t.Error(out)
	}
	// The next choice leaves what was answered ahead of it as it is.
	b.hear(4*second, 7, good(9, 30*second), api.Taken)
	if more[0].Sample.At != 0 || more[1].Server != 1 {
		t.Error(more)
	}
}

// Rule 4: the bytes that are handed in are neither changed nor kept, and what lies behind their length plays no part.
func TestBytesAreApart(t *testing.T) {
	b := begun(t, config(7), 0, 0)
	b.tick(0, 9, 1)
	memory := append(good(9, 3*second), good(1, 2)...)
	before := slices.Clone(memory)
	if out, e := b.d.Do(api.Event{Kind: 1, H: 0, Addr: 7, Data: memory[:47]}); e != api.OK || out.Reason != api.Short {
		t.Error(out, e)
	}
	if out, e := b.d.Do(api.Event{Kind: 1, H: 0, Addr: 7, Data: memory[:48]}); e != api.OK || out.Reason != api.Taken {
		t.Error(out, e)
	}
	if !bytes.Equal(memory, before) {
		t.Error(memory)
	}
	spoil(memory)
	if offset, votes := b.d.Last(); offset != 3*second || len(votes) != 1 {
		t.Error(offset, votes)
	}
}

// P17.3: State of each server, in each state, and of addresses that are none.
func TestState(t *testing.T) {
	for _, c := range configs() {
		b := begun(t, c, 0, 0)
		b.tick(0, 9, len(c.Servers))
		for i, addr := range c.Servers {
			if b.d.State(addr) != peer.Waiting {
				t.Fatal(addr, b.d.State(addr))
			}
			if i%2 == 0 {
				b.hear(0, addr, kiss(9), api.Kiss)
			} else {
				b.hear(0, addr, good(9, second), api.Taken)
			}
			if want := map[bool]int{true: peer.Retired, false: peer.Idle}[i%2 == 0]; b.d.State(addr) != want {
				t.Fatal(addr, b.d.State(addr))
			}
		}
	}
}

// The line in brackets below the functions: a nil Daemon.
func TestNil(t *testing.T) {
	var d *Daemon
	for _, kind := range append(noKinds(), 0, 1) {
		for _, h := range readings() {
			if out, e := d.Do(api.Event{Kind: kind, H: h, Addr: 7, Draw: 5, Data: good(5, second)}); !sameOut(out, api.Out{}) || e != api.ErrNil {
				t.Fatal(kind, h, out, e)
			}
		}
	}
	for _, h := range readings() {
		if n, e := d.Read(h); n != 0 || e != api.ErrNil {
			t.Error(h, n, e)
		}
	}
	for why := -2; why < 16; why++ {
		if n := d.Count(why); n != 0 {
			t.Error(why, n)
		}
	}
	if offset, votes := d.Last(); offset != 0 || len(votes) != 0 || d.Counts() != "" || d.Chosen() != 0 {
		t.Error(offset, votes, d.Counts(), d.Chosen())
	}
	if c := d.Config(); !sameConfig(c, api.Config{}) {
		t.Error(c)
	}
	for _, addr := range append(noAddrs(), 7) {
		if n := d.State(addr); n != peer.Retired {
			t.Error(addr, n)
		}
	}
}

// P17.1, P7.1: at the ends of the counter and of the clock nothing wraps round.
func TestAtTheEnds(t *testing.T) {
	for _, clock := range []int64{-furthest, 0, furthest} {
		for _, off := range []int64{-2147483647 * second, second, 2147483647 * second} {
			b := begun(t, config(7), 0, clock)
			b.tick(0, 9, 1)
			b.hear(0, 7, good(9, clock+off), api.Taken)
			if got, _ := b.d.Last(); got < off-4 || got > off+4 {
				t.Error(clock, off, got)
			}
			b.tick(maxHard, 0, 1)
			b.hear(maxHard, 7, good(9, second), api.Taken)
			b.tick(maxHard, 3, 0)
		}
	}
}

// config is any that may be.
func (x *chance) config() api.Config {
	n := x.between(1, 4)
	if x.below(3) == 0 {
		n = x.between(1, 16)
	}
	var c api.Config
	for len(c.Servers) < n {
		addr := x.between(1, 30)
		if x.below(2) == 0 {
			addr = x.between(1, 65535)
		}
		if !slices.Contains(c.Servers, addr) && !slices.Contains(noAddrs(), addr) {
			c.Servers = append(c.Servers, addr)
		}
	}
	c.Quorum = x.between(1, n)
	c.Least = x.between(4, 9)
	if x.below(4) == 0 {
		c.Least = x.between(4, 1024)
	}
	c.Most = x.between(c.Least, min(1024, 4*c.Least))
	c.Delay = x.between(1, 1000*c.Least-2000)
	c.Slew = x.between(1, 500)
	return c
}

// begin is a reading and a time to begin at, at times so near to the counter's end that it is reached.
func (x *chance) begin() (int64, int64) {
	h := []int64{0, x.below(second), x.below(maxHard / 2), maxHard - x.below(10000*second)}[x.below(4)]
	return h, []int64{0, x.below(100 * second), -furthest + x.below(furthest), x.below(furthest)}[x.below(4)]
}

// later is a reading behind that of the last event, often near to where something is to be done.
func (x *chance) later(q *paper) int64 {
	near := []int64{
		0, x.below(3), x.below(milli), x.below(second), x.below(int64(q.c.Delay) * milli), x.below(20 * second),
		q.wake() - q.last, q.wake() - q.last - 1, q.wake() - q.last + 1, q.wake() - q.last, q.wake() - q.last,
	}
	if x.below(150) == 0 {
		near = []int64{x.below(3000 * int64(q.c.Most) * milli)}
	}
	return min(q.last+max(0, near[x.below(int64(len(near)))]), maxHard)
}

// answer are bytes that come from a server, most of them good ones.
func (x *chance) answer(q *paper, s *server, h int64) []byte {
	all := wrongs(s.cookie)
	switch n := x.below(60); {
	case n < 10:
		return all[x.below(int64(len(all)))].b
	case n == 10:
		return kiss(s.cookie)
	case n == 11:
		return kiss(x.next())
	case n == 12:
		return sane.Good(s.cookie, x.next(), x.next())
	}
	// Its own time is off by as much as its place tells.
	time := q.hand.at(h).time + int64(s.addr%5-1)*milli
	return sane.Good(s.cookie, stamp.From(time-x.below(second)), stamp.From(time))
}

// event is any that may come next.
func (x *chance) event(q *paper) api.Event {
	e := api.Event{H: x.later(q), Draw: x.next() * uint64(x.below(2)), Addr: int(x.below(9))}
	if x.below(40) == 0 {
		return api.Event{Kind: []int{-1, 0, 1, 2}[x.below(4)], H: []int64{-1, 0, maxHard + 1, q.last - 1, x.spread()}[x.below(5)], Draw: x.next(), Addr: q.c.Servers[0], Data: good(q.draw, second)}
	}
	if x.below(5) < 2 {
		return e
	}
	s := q.servers[x.below(int64(len(q.servers)))]
	e.Kind, e.Addr = api.Datagram, s.addr
	e.Data = x.answer(q, s, e.H)
	if x.below(30) == 0 {
		e.Addr = noAddrs()[x.below(int64(len(noAddrs())))]
	}
	return e
}

// seen is what was told of events that look like chance, so that none of it is told too seldom.
type seen struct {
	counts          [13]int
	chosen, lacking int
	sends, wrong    int
}

// play tells both some events that look like chance, and is those that weren't refused, each beside what was done.
func (b *both) play(x *chance, events int, s *seen) ([]api.Event, []api.Out) {
	b.t.Helper()
	var done []api.Event
	var outs []api.Out
	for range events {
		e := x.event(b.q)
		before := b.q.chosen
		out, err := b.do(e)
		if err != api.OK {
			s.wrong++
			continue
		}
		done, outs = append(done, e), append(outs, out)
		s.sends += len(out.Sends)
		if e.Kind == api.Datagram && out.Reason == api.Taken && b.q.chosen == before {
			s.lacking++
		}
		if x.below(8) == 0 {
			b.tell()
		}
	}
	b.tell()
	for i, n := range b.q.counts {
		s.counts[i] += n
	}
	s.chosen += b.q.chosen
	return done, outs
}

// P17.2, P17.3: many events that look like chance, of configs that do, held against the paper.
func TestAgainstPaper(t *testing.T) {
	x := chance(17)
	var s seen
	for range 300 {
		c := x.config()
		h, clock := x.begin()
		b := begun(t, c, h, clock)
		b.play(&x, 150, &s)
	}
	for why, n := range s.counts {
		if n < 20 {
			t.Errorf("reason %d: %d times only", why, n)
		}
	}
	if s.chosen < 1000 || s.lacking < 300 || s.sends < 3000 || s.wrong < 300 {
		t.Error(s)
	}
}

// P17.1 to P17.3: the same of one server, and of sixteen.
func TestAgainstPaperOfOneAndSixteen(t *testing.T) {
	x := chance(1617)
	for _, servers := range [][]int{{7}, sixteen()} {
		var s seen
		for range 20 {
			c := x.config()
			c.Servers, c.Quorum = servers, x.between(1, len(servers))
			if x.below(2) == 0 {
				c.Quorum = 1
			}
			h, clock := x.begin()
			b := begun(t, c, h, clock)
			b.play(&x, 300, &s)
		}
		if s.chosen < 100 || s.sends < 300 {
			t.Error(s)
		}
	}
}

// P17.4, P3: of any two readings the clock's times are as far apart as these, but for the rate, and 1.
func TestNeverSet(t *testing.T) {
	x := chance(3)
	for range 40 {
		c := x.config()
		h, clock := x.begin()
		b := begun(t, c, h, clock)
		type mark struct{ h, time int64 }
		marks := []mark{{h, clock}}
		events, outs := b.play(&x, 120, &seen{})
		for i, e := range events {
			marks = append(marks, mark{e.H, outs[i].Clock})
		}
		for i, m := range marks {
			for _, n := range marks[i:] {
				d, off := n.h-m.h, (n.time-m.time)-(n.h-m.h)
				if most := b.q.hand.share(d) + 1; off < -most || off > most {
					t.Fatalf("slew %d: %+v, %+v", c.Slew, m, n)
				}
			}
		}
	}
}

// P17.4, P5: the same events without the datagrams that weren't taken, and were no kiss, do the same but for the counts.
func TestWithoutRefusedDatagrams(t *testing.T) {
	x := chance(5)
	left := 0
	for range 100 {
		c := x.config()
		h, clock := x.begin()
		b := begun(t, c, h, clock)
		events, outs := b.play(&x, 150, &seen{})
		d := made(t, c, h, clock)
		for i, e := range events {
			if why := outs[i].Reason; why != api.Taken && why != api.Kiss {
				left++
				continue
			}
			if out, err := d.Do(e); err != api.OK || !sameOut(out, outs[i]) {
				t.Fatalf("Do(%+v): %+v, %v, want %+v", e, out, err, outs[i])
			}
		}
		offset, votes := d.Last()
		if offset != b.q.offset || !slices.Equal(votes, b.q.votes) || d.Chosen() != b.q.chosen || d.Count(api.Taken) != b.q.counts[api.Taken] || d.Count(api.Kiss) != b.q.counts[api.Kiss] {
			t.Fatal(offset, votes, d.Chosen())
		}
		for _, addr := range c.Servers {
			if d.State(addr) != b.d.State(addr) {
				t.Fatal(addr, d.State(addr))
			}
		}
		for _, h := range readings() {
			got, e := d.Read(h)
			if want, wrong := b.d.Read(h); got != want || e != wrong {
				t.Fatal(h, got, e)
			}
		}
	}
	if left < 1000 {
		t.Error(left)
	}
}

// P17.4, P6: all that is sent are queries with the last draw, to servers of the config, two to one of them never nearer than Least seconds.
func TestNeverNearer(t *testing.T) {
	x := chance(6)
	just := 0
	for range 100 {
		c := x.config()
		h, clock := x.begin()
		b := begun(t, c, h, clock)
		events, outs := b.play(&x, 150, &seen{})
		sent := map[int]int64{}
		draw := uint64(0)
		for i, e := range events {
			if e.Kind == api.Datagram {
				if len(outs[i].Sends) != 0 {
					t.Fatal(outs[i])
				}
				continue
			}
			if e.Draw != 0 {
				draw = e.Draw
			}
			for _, s := range outs[i].Sends {
				before, again := sent[s.Addr]
				if again && e.H-before < int64(c.Least)*second || !slices.Contains(c.Servers, s.Addr) || draw == 0 || !bytes.Equal(s.Data, packet.Query(draw)) {
					t.Fatal(e, before, s)
				}
				if again && e.H-before == int64(c.Least)*second {
					just++
				}
				sent[s.Addr] = e.H
			}
		}
	}
	if just < 50 {
		t.Error(just)
	}
}

// P17.4: just Least seconds behind a query that was answered there is the next one, and none a nanosecond ahead of that.
func TestJustLeastSeconds(t *testing.T) {
	for _, c := range configs() {
		gap := int64(c.Least) * second
		b := begun(t, c, 0, 0)
		for i := range int64(5) {
			b.tick(i*gap, uint64(i+1), len(c.Servers))
			for _, addr := range c.Servers {
				b.hear(i*gap, addr, good(uint64(i+1), (i+1)*gap), api.Taken)
			}
			b.tick((i+1)*gap-1, 0, 0)
		}
	}
}

// P2: two daemons have nothing to do with one another.
func TestTwoDaemons(t *testing.T) {
	x := chance(2)
	for range 30 {
		c, other := x.config(), x.config()
		a, b := begun(t, c, 0, 0), begun(t, other, 5*second, -7)
		same := begun(t, c, 0, 0)
		for range 40 {
			a.play(&x, 2, &seen{})
			b.play(&x, 2, &seen{})
			same.play(&x, 1, &seen{})
			a.tell()
		}
	}
}

// P2, rule 7: what is told hangs on nothing but the events: the same ones do the same again.
func TestSameAgain(t *testing.T) {
	x := chance(8)
	c := x.config()
	b := begun(t, c, 0, 0)
	events, outs := b.play(&x, 300, &seen{})
	for range 5 {
		d := made(t, c, 0, 0)
		for i, e := range events {
			if out, err := d.Do(e); err != api.OK || !sameOut(out, outs[i]) {
				t.Fatal(e, out, err)
			}
		}
	}
}

// Rule 6: calls may be made by many goroutines at a time, each with a daemon of its own.
func TestManyGoroutines(t *testing.T) {
	x := chance(9)
	c := x.config()
	b := begun(t, c, 0, 0)
	events, outs := b.play(&x, 100, &seen{})
	var all sync.WaitGroup
	for range 8 {
		all.Go(func() {
			d, _, _ := New(textOf(c), 0, 0)
			for i, e := range events {
				if out, err := d.Do(e); err != api.OK || !sameOut(out, outs[i]) {
					t.Error(e, out, err)
					return
				}
			}
		})
	}
	all.Wait()
}

// The section 'Ways': of each kind of event there is just one thing that is done.
func TestKinds(t *testing.T) {
	kinds := slices.Sorted(maps.Keys(made(t, config(7), 0, 0).kinds()))
	if !slices.Equal(kinds, []int{api.Tick, api.Datagram}) {
		t.Error(kinds)
	}
}

// The chapter's example, and what becomes of it.
func TestExample(t *testing.T) {
	d, n, e := New("server 7\nquorum 1\npoll 4 16\ndelay 1000\nslew 500\n", 0, 0)
	if d == nil || n != 0 || e != api.OK {
		t.Fatal(d, n, e)
	}
	out, e := d.Do(api.Event{Kind: api.Tick, H: 0, Draw: 5})
	want := api.Out{Sends: []api.Send{{Addr: 7, Data: packet.Query(5)}}, Wake: 1000000001}
	if e != api.OK || !sameOut(out, want) {
		t.Error(out, e)
	}
}

// DOC.md's tenth example: a clock that is 10 seconds behind catches up by half a millisecond in a second, at most.
func TestTenSecondsBehind(t *testing.T) {
	b := begun(t, config(7), 0, 0)
	b.tick(0, 5, 1)
	b.hear(0, 7, good(5, 10*second), api.Taken)
	for s := range int64(30) {
		if out := b.done(api.Event{H: s * second}); out.Clock != s*second+s*500000 {
			t.Error(s, out)
		}
	}
}
