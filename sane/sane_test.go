package sane

import (
	"bytes"
	"encoding/binary"
	"math"
	"slices"
	"testing"

	"chronobate/api"
	"chronobate/packet"
)

// asked is the cookie of most queries here: none of its bytes is another's, or 0.
const asked = 0x0102030405060708

// full is an answer to asked that may be taken, with something in all of its numbers.
var full = api.Packet{
	Leap: 1, Version: 4, Mode: 4, Stratum: 2, Poll: 6, Precision: -20,
	Delay: 0xd5206bb6, Dispersion: 0x014c97e2, Refs: 0x2d78c30e,
	Ref: 0x59a4ef3a85d01b66, Orig: asked, Recv: 0x09549fea3580cb16, Xmit: 0x61acf7428dd8236e,
}

// allNames are the reasons' names, each beside its reason.
var allNames = map[int]string{
	api.Taken: "taken", api.Short: "short", api.Unknown: "unknown", api.Retired: "retired", api.Idle: "idle",
	api.Version: "version", api.Mode: "mode", api.Origin: "origin", api.Kiss: "kiss", api.Leap: "leap",
	api.Stratum: "stratum", api.Zero: "zero", api.Slow: "slow",
}

// edges are numbers of 64 bits, 0 and the greatest among them.
var edges = []uint64{0, 1, 2, 7, 8, 255, 256, 1<<32 - 1, 1 << 32, 1<<63 - 1, 1 << 63, math.MaxUint64 - 1, math.MaxUint64}

// bytesOf are a packet's bytes.
func bytesOf(t *testing.T, p api.Packet) []byte {
	t.Helper()
	b, e := packet.Put(p)
	if e != api.OK {
		t.Fatalf("Put(%v): %v", p, e)
	}
	return b
}

// same is a list of n bytes that are all b.
func same(b byte, n int) []byte { return bytes.Repeat([]byte{b}, n) }

// some are numbers of 64 bits, the same ones at each run.
func some(n int) []uint64 {
	out := make([]uint64, n)
	x := uint64(88172645463325252)
	for i := range out {
		x ^= x << 13
		x ^= x >> 7
		x ^= x << 17
		out[i] = x
	}
	return out
}

// reasonOf is the reason that the document tells of bytes, by looking at the bytes alone.
func reasonOf(b []byte, cookie uint64) int {
	switch {
	case len(b) < 48:
		return api.Short
	case b[0]/8%8 != 4:
		return api.Version
	case b[0]%8 != 4:
		return api.Mode
	case cookie == 0 || binary.BigEndian.Uint64(b[24:]) != cookie:
		return api.Origin
	case b[1] == 0:
		return api.Kiss
	case b[0]/64 == 3:
		return api.Leap
	case b[1] > 15:
		return api.Stratum
	case binary.BigEndian.Uint64(b[32:]) == 0 || binary.BigEndian.Uint64(b[40:]) == 0:
		return api.Zero
	}
	return api.Taken
}

// beside is what is told of a packet beside a reason.
func beside(p api.Packet, why int) api.Packet {
	if why == api.Taken || why == api.Kiss {
		return p
	}
	return api.Packet{}
}

// want holds what Look answers against a reason, and what is told beside it.
func want(t *testing.T, name string, p api.Packet, cookie uint64, why int) {
	t.Helper()
	b := bytesOf(t, p)
	for _, behind := range [][]byte{nil, {0}, {255}, same(0, 48), same(255, 100)} {
		got, reason := Look(append(bytes.Clone(b), behind...), cookie)
		if reason != why || got != beside(p, why) {
			t.Errorf("%s, %d behind: %v %s, want %s", name, len(behind), got, allNames[reason], allNames[why])
		}
	}
}

// fault is something for which an answer isn't taken.
type fault struct {
	name string
	why  int
	make func(p *api.Packet, cookie *uint64)
}

// faults are in the order of their reasons.
func faults() []fault {
	return []fault{
		{"version 0", api.Version, func(p *api.Packet, _ *uint64) { p.Version = 0 }},
		{"version 3", api.Version, func(p *api.Packet, _ *uint64) { p.Version = 3 }},
		{"version 5", api.Version, func(p *api.Packet, _ *uint64) { p.Version = 5 }},
		{"version 7", api.Version, func(p *api.Packet, _ *uint64) { p.Version = 7 }},
		{"mode 0", api.Mode, func(p *api.Packet, _ *uint64) { p.Mode = 0 }},
		{"mode 3", api.Mode, func(p *api.Packet, _ *uint64) { p.Mode = 3 }},
		{"mode 5", api.Mode, func(p *api.Packet, _ *uint64) { p.Mode = 5 }},
		{"mode 7", api.Mode, func(p *api.Packet, _ *uint64) { p.Mode = 7 }},
		{"cookie 1 more", api.Origin, func(p *api.Packet, cookie *uint64) { *cookie = p.Orig + 1 }},
		{"cookie 1 less", api.Origin, func(p *api.Packet, cookie *uint64) { *cookie = p.Orig - 1 }},
		{"cookie with another highest bit", api.Origin, func(p *api.Packet, cookie *uint64) { *cookie = p.Orig ^ 1<<63 }},
		{"orig 0", api.Origin, func(p *api.Packet, _ *uint64) { p.Orig = 0 }},
		{"cookie 0", api.Origin, func(_ *api.Packet, cookie *uint64) { *cookie = 0 }},
		{"cookie 0 and orig 0", api.Origin, func(p *api.Packet, cookie *uint64) { p.Orig, *cookie = 0, 0 }},
		{"stratum 0", api.Kiss, func(p *api.Packet, _ *uint64) { p.Stratum = 0 }},
		{"leap 3", api.Leap, func(p *api.Packet, _ *uint64) { p.Leap = 3 }},
		{"stratum 16", api.Stratum, func(p *api.Packet, _ *uint64) { p.Stratum = 16 }},
		{"stratum 255", api.Stratum, func(p *api.Packet, _ *uint64) { p.Stratum = 255 }},
		{"recv 0", api.Zero, func(p *api.Packet, _ *uint64) { p.Recv = 0 }},
		{"xmit 0", api.Zero, func(p *api.Packet, _ *uint64) { p.Xmit = 0 }},
		{"recv 0 and xmit 0", api.Zero, func(p *api.Packet, _ *uint64) { p.Recv, p.Xmit = 0, 0 }},
	}
}

// together tells whether two faults can be in one answer: a stratum is one number alone.
func together(a, b fault) bool { return a.why != api.Kiss || b.why != api.Stratum }

func TestExamples(t *testing.T) {
	good := Good(7, 1, 2)
	p, why := Look(good, 7)
	if why != api.Taken || p != (api.Packet{Version: 4, Mode: 4, Stratum: 1, Orig: 7, Recv: 1, Xmit: 2}) {
		t.Error("7:", p, why)
	}
	if p, why := Look(good, 8); why != api.Origin || p != (api.Packet{}) {
		t.Error("8:", p, why)
	}
}

// P4.1: with and without bytes behind the first 48.
func TestTaken(t *testing.T) {
	want(t, "full", full, asked, api.Taken)
	want(t, "good", api.Packet{Version: 4, Mode: 4, Stratum: 1, Orig: 7, Recv: 1, Xmit: 2}, 7, api.Taken)
	for leap := range uint8(3) {
		p := full
		p.Leap = leap
		want(t, "leap", p, asked, api.Taken)
	}
	for stratum := uint8(1); stratum <= 15; stratum++ {
		p := full
		p.Stratum = stratum
		want(t, "stratum", p, asked, api.Taken)
	}
	greatest := api.Packet{
		Leap: 2, Version: 4, Mode: 4, Stratum: 15, Poll: -1, Precision: -1,
		Delay: math.MaxUint32, Dispersion: math.MaxUint32, Refs: math.MaxUint32,
		Ref: math.MaxUint64, Orig: math.MaxUint64, Recv: math.MaxUint64, Xmit: math.MaxUint64,
	}
	want(t, "greatest", greatest, math.MaxUint64, api.Taken)
	least := api.Packet{Version: 4, Mode: 4, Stratum: 1, Orig: 1, Recv: 1, Xmit: 1}
	want(t, "least", least, 1, api.Taken)
}

// P4.1, and rule 4: what lies behind a list's length isn't of the list.
func TestShort(t *testing.T) {
	whole := append(bytesOf(t, full), "more"...)
	wrong := same(255, 100)
	for _, cookie := range []uint64{0, 7, asked, math.MaxUint64} {
		if p, why := Look(nil, cookie); why != api.Short || p != (api.Packet{}) {
			t.Error("nil:", p, why)
		}
		for n := range 48 {
			for _, b := range [][]byte{whole[:n], whole[:n:n], wrong[:n], make([]byte, n)} {
				if p, why := Look(b, cookie); why != api.Short || p != (api.Packet{}) {
					t.Errorf("%d bytes, cookie %d: %v %s", n, cookie, p, allNames[why])
				}
			}
		}
	}
}

// P4.1: each by itself.
func TestEachReason(t *testing.T) {
	for _, f := range faults() {
		p, cookie := full, uint64(asked)
		f.make(&p, &cookie)
		want(t, f.name, p, cookie, f.why)
	}
}

// P4.1: of any two that apply at once, the first.
func TestTwoReasons(t *testing.T) {
	all := faults()
	for i, first := range all {
		for _, second := range all[i+1:] {
			if !together(first, second) {
				continue
			}
			// In either order, since what the later one makes may write over what the earlier one made.
			for _, pair := range [][2]fault{{first, second}, {second, first}} {
				p, cookie := full, uint64(asked)
				pair[0].make(&p, &cookie)
				pair[1].make(&p, &cookie)
				want(t, first.name+" and "+second.name, p, cookie, first.why)
			}
		}
	}
}

// P4.1: a kiss is told with its packet only where it is the reason.
func TestKiss(t *testing.T) {
	kiss := api.Packet{Leap: 3, Version: 4, Mode: 4, Orig: 7, Refs: 0x44454e59}
	want(t, "kiss", kiss, 7, api.Kiss)
	want(t, "kiss to another", kiss, 8, api.Origin)
	want(t, "kiss to nobody", kiss, 0, api.Origin)
	kiss.Version = 3
	want(t, "kiss of another version", kiss, 7, api.Version)
	kiss.Version, kiss.Mode = 4, 3
	want(t, "kiss of another mode", kiss, 7, api.Mode)
	kiss.Mode, kiss.Stratum = 4, 1
	want(t, "no kiss", kiss, 7, api.Leap)
}

// P4.1: every first byte with every stratum, with what else may be wrong or not.
func TestFirstBytes(t *testing.T) {
	b := bytesOf(t, full)
	for _, cookie := range []uint64{asked, asked + 1} {
		for zeros := range 4 {
			clear(b[32:])
			if zeros&1 == 0 {
				b[39] = 1
			}
			if zeros&2 == 0 {
				b[40] = 1
			}
			for first := range 256 {
				for stratum := range 256 {
					b[0], b[1] = byte(first), byte(stratum)
					whole, _ := packet.Get(b)
					why := reasonOf(b, cookie)
					if p, got := Look(b, cookie); got != why || p != beside(whole, why) {
						t.Fatalf("%x, cookie %d: %v %s, want %s", b, cookie, p, allNames[got], allNames[why])
					}
				}
			}
		}
	}
}

// P4.1: each bit of the cookie and of the two times counts.
func TestEveryBitCounts(t *testing.T) {
	for bit := range 64 {
		p := full
		p.Orig ^= 1 << bit
		want(t, "orig", p, asked, api.Origin)
		want(t, "cookie", full, asked^1<<bit, api.Origin)
		p = full
		p.Orig, p.Recv, p.Xmit = 1<<bit, 1<<bit, 1<<bit
		want(t, "one bit", p, 1<<bit, api.Taken)
		p.Recv = 0
		want(t, "no recv", p, 1<<bit, api.Zero)
		p.Recv, p.Xmit = 1<<bit, 0
		want(t, "no xmit", p, 1<<bit, api.Zero)
	}
}

// P4.1: whatever comes, of any length.
func TestAnyBytes(t *testing.T) {
	seen := map[int]bool{}
	numbers := some(60000)
	for i := 0; i+7 < len(numbers); i++ {
		var b []byte
		for _, n := range numbers[i : i+7] {
			b = binary.BigEndian.AppendUint64(b, n)
		}
		// Most of what comes by chance has a wrong version or another's cookie: these are made right in some, so that what is behind them is looked at, too.
		kind, cookie := numbers[i+7], numbers[i]
		if kind&3 != 0 {
			b[0] = b[0]&0xc0 | 36
		}
		if kind&12 != 0 {
			cookie = binary.BigEndian.Uint64(b[24:])
		}
		b[1] >>= kind >> 4 & 7
		if kind>>7&7 == 0 {
			clear(b[32:40])
		}
		b = b[:len(b)-int(kind>>10)%10]
		whole, _ := packet.Get(b)
		why := reasonOf(b, cookie)
		seen[why] = true
		if p, got := Look(b, cookie); got != why || p != beside(whole, why) {
			t.Fatalf("%x, cookie %d: %v %s, want %s", b, cookie, p, allNames[got], allNames[why])
		}
	}
	if len(seen) != 9 {
		t.Error("not every reason came:", seen)
	}
}

// P4.1
func TestNames(t *testing.T) {
	names := Names()
	if len(names) != api.Reasons {
		t.Fatal(names)
	}
	for why, name := range names {
		if name != allNames[why] {
			t.Errorf("%d: %s, want %s", why, name, allNames[why])
		}
	}
}

// P4.1, and rule 4: what a caller does to the names is not to be seen in what is answered next.
func TestNamesAreEachCallers(t *testing.T) {
	first, second := Names(), Names()
	kept := slices.Clone(second)
	for i := range first[:cap(first)] {
		first[:cap(first)][i] = "spoilt"
	}
	if !slices.Equal(second, kept) {
		t.Error("answered before:", second)
	}
	if third := Names(); !slices.Equal(third, kept) {
		t.Error("answered next:", third)
	}
}

// threes calls f with many threes of numbers, 0 and the greatest among them.
func threes(f func(cookie, recv, xmit uint64)) {
	for _, cookie := range edges {
		for _, recv := range edges {
			for _, xmit := range edges {
				f(cookie, recv, xmit)
			}
		}
	}
	numbers := some(3002)
	for i := range numbers[2:] {
		f(numbers[i], numbers[i+1], numbers[i+2])
	}
}

// P4.2
func TestGood(t *testing.T) {
	threes(func(cookie, recv, xmit uint64) {
		bytesWanted := append([]byte{36, 1}, make([]byte, 22)...)
		for _, n := range []uint64{cookie, recv, xmit} {
			bytesWanted = binary.BigEndian.AppendUint64(bytesWanted, n)
		}
		b := Good(cookie, recv, xmit)
		if !bytes.Equal(b, bytesWanted) {
			t.Fatalf("Good(%d, %d, %d): %x, want %x", cookie, recv, xmit, b, bytesWanted)
		}
		p, e := packet.Get(b)
		if e != api.OK || p != (api.Packet{Version: 4, Mode: 4, Stratum: 1, Orig: cookie, Recv: recv, Xmit: xmit}) {
			t.Fatalf("Good(%d, %d, %d): %v %v", cookie, recv, xmit, p, e)
		}
	})
}

// P4.3: what is good is taken, if none of the three is 0; to another cookie it never is.
func TestGoodIsTaken(t *testing.T) {
	threes(func(cookie, recv, xmit uint64) {
		b := Good(cookie, recv, xmit)
		why := api.Taken
		switch {
		case cookie == 0:
			why = api.Origin
		case recv == 0 || xmit == 0:
			why = api.Zero
		}
		whole := api.Packet{Version: 4, Mode: 4, Stratum: 1, Orig: cookie, Recv: recv, Xmit: xmit}
		if p, got := Look(b, cookie); got != why || p != beside(whole, why) {
			t.Fatalf("Good(%d, %d, %d) is %s, want %s, and %v", cookie, recv, xmit, allNames[got], allNames[why], p)
		}
		for _, other := range []uint64{0, cookie + 1, cookie - 1, ^cookie, recv, xmit} {
			if other == cookie {
				continue
			}
			if p, got := Look(b, other); got != api.Origin || p != (api.Packet{}) {
				t.Fatalf("Good(%d, %d, %d) looked at with %d: %v %s", cookie, recv, xmit, other, p, allNames[got])
			}
		}
	})
}

// P4.3: an answer to another cookie isn't taken, whatever else it is.
func TestAnotherCookieIsNeverTaken(t *testing.T) {
	numbers := some(20000)
	for i, n := range numbers[1:] {
		p := full
		p.Orig, p.Recv, p.Xmit = n, numbers[i], n
		p.Leap, p.Stratum = uint8(n&3), uint8(n>>2&31)
		if got, why := Look(bytesOf(t, p), numbers[i]); why != api.Origin || got != (api.Packet{}) {
			t.Fatalf("%v looked at with %d: %v %s", p, numbers[i], got, allNames[why])
		}
	}
}

// Rule 4: what is handed in isn't changed, nor what lies behind it.
func TestLookChangesNothing(t *testing.T) {
	answers := [][]byte{bytesOf(t, full), Good(asked, 1, 2), make([]byte, 48), same(255, 48)}
	for _, f := range faults() {
		p, cookie := full, uint64(asked)
		f.make(&p, &cookie)
		answers = append(answers, bytesOf(t, p))
	}
	for _, answer := range answers {
		for _, n := range []int{0, 1, 47, 48, 49, 60} {
			whole := append(bytes.Clone(answer), same(7, 40)...)
			kept := bytes.Clone(whole)
			Look(whole[:n], asked)
			if !bytes.Equal(whole, kept) {
				t.Errorf("%d of %x: now %x", n, kept, whole)
			}
		}
	}
}

// Rule 4: a packet that was told doesn't change with the bytes that it was told of.
func TestPacketsAreKeptApartFromBytes(t *testing.T) {
	b := bytesOf(t, full)
	p, _ := Look(b, asked)
	clear(b)
	if p != full {
		t.Error(p)
	}
}

// Rule 4: no answer of Good shares anything with another's.
func TestGoodSharesNothing(t *testing.T) {
	first, second := Good(7, 1, 2), Good(7, 1, 2)
	kept := bytes.Clone(second)
	clear(first[:cap(first)])
	if !bytes.Equal(second, kept) {
		t.Errorf("answered before: %x", second)
	}
	if third := Good(7, 1, 2); !bytes.Equal(third, kept) {
		t.Errorf("answered next: %x", third)
	}
}

// Rule 7: what was looked at before plays no part.
func TestLooksAreApart(t *testing.T) {
	b := bytesOf(t, full)
	for _, f := range faults() {
		p, cookie := full, uint64(asked)
		f.make(&p, &cookie)
		Look(bytesOf(t, p), cookie)
		if got, why := Look(b, asked); why != api.Taken || got != full {
			t.Errorf("after %s: %v %s", f.name, got, allNames[why])
		}
	}
}

// The list of tests has every reason that an answer's bytes can give, once, in the order that the document names.
func TestTestsStandInOrder(t *testing.T) {
	var order []int
	for _, one := range tests() {
		order = append(order, one.reason)
	}
	if !slices.Equal(order, []int{api.Short, api.Version, api.Mode, api.Origin, api.Kiss, api.Leap, api.Stratum, api.Zero}) {
		t.Error(order)
	}
	good := answer{asked, full, api.OK}
	for _, one := range tests() {
		if one.applies(good) {
			t.Error("applies to what may be taken:", allNames[one.reason])
		}
	}
}
