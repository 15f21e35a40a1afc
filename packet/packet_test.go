package packet

import (
	"bytes"
	"encoding/binary"
	"math"
	"testing"

	"chronobate/api"
)

// full is a packet whose bytes are all different: fullBytes.
var full = api.Packet{
	Leap: 2, Version: 5, Mode: 1,
	Stratum: 0xf4, Poll: 63, Precision: -118,
	Delay: 0xd5206bb6, Dispersion: 0x014c97e2, Refs: 0x2d78c30e,
	Ref: 0x59a4ef3a85d01b66, Orig: 0xb1fc4792dd2873be, Recv: 0x09549fea3580cb16, Xmit: 0x61acf7428dd8236e,
}

const fullBytes = "\xa9\xf4\x3f\x8a" +
	"\xd5\x20\x6b\xb6" + "\x01\x4c\x97\xe2" + "\x2d\x78\xc3\x0e" +
	"\x59\xa4\xef\x3a\x85\xd0\x1b\x66" + "\xb1\xfc\x47\x92\xdd\x28\x73\xbe" +
	"\x09\x54\x9f\xea\x35\x80\xcb\x16" + "\x61\xac\xf7\x42\x8d\xd8\x23\x6e"

// greatest is the packet whose bytes are all 255.
var greatest = api.Packet{
	Leap: 3, Version: 7, Mode: 7, Stratum: math.MaxUint8, Poll: -1, Precision: -1,
	Delay: math.MaxUint32, Dispersion: math.MaxUint32, Refs: math.MaxUint32,
	Ref: math.MaxUint64, Orig: math.MaxUint64, Recv: math.MaxUint64, Xmit: math.MaxUint64,
}

// same is a list of n bytes that are all b.
func same(b byte, n int) []byte { return bytes.Repeat([]byte{b}, n) }

// some are lists of 48 bytes, the same ones at each run.
func some(n int) [][]byte {
	out := make([][]byte, n)
	x := uint64(88172645463325252)
	for i := range out {
		out[i] = make([]byte, 48)
		for j := range out[i] {
			x ^= x << 13
			x ^= x >> 7
			x ^= x << 17
			out[i][j] = byte(x >> 32)
		}
	}
	return out
}

// packetOf is the packet of 48 bytes, by the library's own reading.
func packetOf(b []byte) api.Packet {
	return api.Packet{
		Leap: b[0] / 64, Version: b[0] / 8 % 8, Mode: b[0] % 8,
		Stratum: b[1], Poll: signed(b[2]), Precision: signed(b[3]),
		Delay: binary.BigEndian.Uint32(b[4:]), Dispersion: binary.BigEndian.Uint32(b[8:]), Refs: binary.BigEndian.Uint32(b[12:]),
		Ref: binary.BigEndian.Uint64(b[16:]), Orig: binary.BigEndian.Uint64(b[24:]), Recv: binary.BigEndian.Uint64(b[32:]), Xmit: binary.BigEndian.Uint64(b[40:]),
	}
}

// signed is the number that a byte tells, if one below 0 is told as it and 256.
func signed(b byte) int8 {
	if b < 128 {
		return int8(b)
	}
	return int8(int(b) - 256)
}

// part is a packet with one number at an edge, and the bytes that are not 0, by their places.
type part struct {
	name string
	p    api.Packet
	want map[int]byte
}

// parts are packets that have 0 in all but one of their numbers.
func parts() []part {
	from := func(at int, b ...byte) map[int]byte {
		want := map[int]byte{}
		for i := range b {
			want[at+i] = b[i]
		}
		return want
	}
	return []part{
		{"nothing", api.Packet{}, nil},
		{"leap 1", api.Packet{Leap: 1}, map[int]byte{0: 64}},
		{"leap 3", api.Packet{Leap: 3}, map[int]byte{0: 192}},
		{"version 1", api.Packet{Version: 1}, map[int]byte{0: 8}},
		{"version 4", api.Packet{Version: 4}, map[int]byte{0: 32}},
		{"version 7", api.Packet{Version: 7}, map[int]byte{0: 56}},
		{"mode 1", api.Packet{Mode: 1}, map[int]byte{0: 1}},
		{"mode 7", api.Packet{Mode: 7}, map[int]byte{0: 7}},
		{"stratum 1", api.Packet{Stratum: 1}, map[int]byte{1: 1}},
		{"stratum 255", api.Packet{Stratum: 255}, map[int]byte{1: 255}},
		{"poll 1", api.Packet{Poll: 1}, map[int]byte{2: 1}},
		{"poll -1", api.Packet{Poll: -1}, map[int]byte{2: 255}},
		{"poll 127", api.Packet{Poll: 127}, map[int]byte{2: 127}},
		{"poll -128", api.Packet{Poll: -128}, map[int]byte{2: 128}},
		{"precision 1", api.Packet{Precision: 1}, map[int]byte{3: 1}},
		{"precision -20", api.Packet{Precision: -20}, map[int]byte{3: 236}},
		{"precision 127", api.Packet{Precision: 127}, map[int]byte{3: 127}},
		{"precision -128", api.Packet{Precision: -128}, map[int]byte{3: 128}},
		{"delay", api.Packet{Delay: 0x01020304}, from(4, 1, 2, 3, 4)},
		{"delay, greatest", api.Packet{Delay: math.MaxUint32}, from(4, same(255, 4)...)},
		{"dispersion", api.Packet{Dispersion: 0x01020304}, from(8, 1, 2, 3, 4)},
		{"dispersion, greatest", api.Packet{Dispersion: math.MaxUint32}, from(8, same(255, 4)...)},
		{"refs", api.Packet{Refs: 0x01020304}, from(12, 1, 2, 3, 4)},
		{"refs, greatest", api.Packet{Refs: math.MaxUint32}, from(12, same(255, 4)...)},
		{"ref", api.Packet{Ref: 0x0102030405060708}, from(16, 1, 2, 3, 4, 5, 6, 7, 8)},
		{"ref, greatest", api.Packet{Ref: math.MaxUint64}, from(16, same(255, 8)...)},
		{"orig", api.Packet{Orig: 0x0102030405060708}, from(24, 1, 2, 3, 4, 5, 6, 7, 8)},
		{"orig, greatest", api.Packet{Orig: math.MaxUint64}, from(24, same(255, 8)...)},
		{"recv", api.Packet{Recv: 0x0102030405060708}, from(32, 1, 2, 3, 4, 5, 6, 7, 8)},
		{"recv, greatest", api.Packet{Recv: math.MaxUint64}, from(32, same(255, 8)...)},
		{"xmit", api.Packet{Xmit: 0x0102030405060708}, from(40, 1, 2, 3, 4, 5, 6, 7, 8)},
		{"xmit, greatest", api.Packet{Xmit: math.MaxUint64}, from(40, same(255, 8)...)},
	}
}

// bytes are all 48 of a part's.
func (p part) bytes() []byte {
	out := make([]byte, 48)
	for at, b := range p.want {
		out[at] = b
	}
	return out
}

func TestExamples(t *testing.T) {
	want := append(append([]byte{35}, make([]byte, 45)...), 1, 2)
	if q := Query(258); !bytes.Equal(q, want) {
		t.Errorf("Query(258): %v", q)
	}
}

// P3.1: all values of the three numbers that have a greatest one of their own.
func TestCheck(t *testing.T) {
	for leap := range 256 {
		for version := range 256 {
			for mode := range 256 {
				want := api.OK
				if leap > 3 || version > 7 || mode > 7 {
					want = api.ErrRange
				}
				p := api.Packet{Leap: uint8(leap), Version: uint8(version), Mode: uint8(mode)}
				if e := Check(p); e != want {
					t.Fatalf("leap %d, version %d, mode %d: %v, want %v", leap, version, mode, e, want)
				}
			}
		}
	}
}

// P3.1: nothing can be wrong with the other numbers.
func TestCheckLooksAtThreeNumbersAlone(t *testing.T) {
	for _, c := range parts() {
		if e := Check(c.p); e != api.OK {
			t.Error(c.name, e)
		}
	}
	for _, p := range []api.Packet{full, greatest} {
		if e := Check(p); e != api.OK {
			t.Error(p, e)
		}
		p.Version = 8
		if e := Check(p); e != api.ErrRange {
			t.Error(p, e)
		}
	}
}

// P3.1
func TestPutEachNumberInItsPlace(t *testing.T) {
	for _, c := range parts() {
		if b, e := Put(c.p); e != api.OK || !bytes.Equal(b, c.bytes()) {
			t.Errorf("%s: %v %v", c.name, b, e)
		}
	}
}

// P3.1
func TestPutWholePackets(t *testing.T) {
	seen := map[byte]bool{}
	for _, b := range []byte(fullBytes) {
		seen[b] = true
	}
	if len(seen) != 48 {
		t.Error("bytes that are different:", len(seen))
	}
	if b, e := Put(full); e != api.OK || string(b) != fullBytes {
		t.Errorf("%x %v", b, e)
	}
	if b, e := Put(greatest); e != api.OK || !bytes.Equal(b, same(255, 48)) {
		t.Errorf("%x %v", b, e)
	}
}

// P3.1: the first byte is one of three numbers.
func TestPutFirstByte(t *testing.T) {
	for leap := range 4 {
		for version := range 8 {
			for mode := range 8 {
				p := full
				p.Leap, p.Version, p.Mode = uint8(leap), uint8(version), uint8(mode)
				want := append([]byte{byte(leap*64 + version*8 + mode)}, fullBytes[1:]...)
				if b, e := Put(p); e != api.OK || !bytes.Equal(b, want) {
					t.Errorf("leap %d, version %d, mode %d: %x %v", leap, version, mode, b, e)
				}
			}
		}
	}
}

// P3.1, and rule 2: nothing is told beside an error.
func TestPutRefuses(t *testing.T) {
	for _, c := range []struct {
		name string
		spot func(p *api.Packet) *uint8
		most uint8
	}{
		{"leap", func(p *api.Packet) *uint8 { return &p.Leap }, 3},
		{"version", func(p *api.Packet) *uint8 { return &p.Version }, 7},
		{"mode", func(p *api.Packet) *uint8 { return &p.Mode }, 7},
	} {
		for _, p := range []api.Packet{{}, full, greatest} {
			*c.spot(&p) = c.most
			if b, e := Put(p); e != api.OK || len(b) != 48 {
				t.Errorf("%s %d: %x %v", c.name, c.most, b, e)
			}
			for _, n := range []uint8{c.most + 1, c.most + 2, 16, 64, 128, 254, 255} {
				*c.spot(&p) = n
				if b, e := Put(p); e != api.ErrRange || len(b) != 0 {
					t.Errorf("%s %d: %x %v", c.name, n, b, e)
				}
			}
		}
	}
	if b, e := Put(api.Packet{Leap: 4, Version: 8, Mode: 8}); e != api.ErrRange || len(b) != 0 {
		t.Errorf("all three: %x %v", b, e)
	}
}

// P3.2
func TestGetEachNumberFromItsPlace(t *testing.T) {
	for _, c := range parts() {
		if p, e := Get(c.bytes()); e != api.OK || p != c.p {
			t.Errorf("%s: %v %v", c.name, p, e)
		}
	}
	if p, e := Get([]byte(fullBytes)); e != api.OK || p != full {
		t.Error(p, e)
	}
	if p, e := Get(same(255, 48)); e != api.OK || p != greatest {
		t.Error(p, e)
	}
}

// P3.2: Poll and Precision at each byte.
func TestGetNumbersBelowNought(t *testing.T) {
	for n := range 256 {
		b := make([]byte, 48)
		b[2], b[3] = byte(n), byte(255-n)
		want := api.Packet{Poll: signed(byte(n)), Precision: signed(byte(255 - n))}
		if p, e := Get(b); e != api.OK || p != want {
			t.Errorf("%d: %v %v", n, p, e)
		}
	}
}

// P3.2: whatever the first byte is, it makes a packet.
func TestGetFirstByte(t *testing.T) {
	for first := range 256 {
		b := append([]byte{byte(first)}, fullBytes[1:]...)
		want := full
		want.Leap, want.Version, want.Mode = uint8(first/64), uint8(first/8%8), uint8(first%8)
		if p, e := Get(b); e != api.OK || p != want {
			t.Errorf("%d: %v %v", first, p, e)
		}
	}
}

// P3.2, and rule 4: what lies behind a list's length isn't of the list.
func TestGetShort(t *testing.T) {
	if p, e := Get(nil); e != api.ErrShort || p != (api.Packet{}) {
		t.Error("nil:", p, e)
	}
	whole := []byte(fullBytes + "more")
	for n := range 48 {
		for _, b := range [][]byte{whole[:n], whole[:n:n]} {
			if p, e := Get(b); e != api.ErrShort || p != (api.Packet{}) {
				t.Errorf("%d bytes: %v %v", n, p, e)
			}
		}
	}
}

// P3.2: what stands behind the first 48 plays no part.
func TestGetLong(t *testing.T) {
	for _, behind := range []int{0, 1, 2, 47, 48, 100, 65000} {
		for _, b := range []byte{0, 1, 255} {
			long := append([]byte(fullBytes), same(b, behind)...)
			if p, e := Get(long); e != api.OK || p != full {
				t.Errorf("%d behind: %v %v", behind, p, e)
			}
		}
	}
}

// P3.2
func TestGetIsWhatTheBytesAre(t *testing.T) {
	for _, b := range some(20000) {
		if p, e := Get(b); e != api.OK || p != packetOf(b) {
			t.Fatalf("%x: %v %v", b, p, e)
		}
	}
}

// P3.3
func TestQuery(t *testing.T) {
	cookies := []uint64{0, 1, 255, 256, 258, 1<<32 - 1, 1 << 32, 1<<63 - 1, 1 << 63, math.MaxUint64, 0x0102030405060708}
	for _, b := range some(2000) {
		cookies = append(cookies, binary.BigEndian.Uint64(b))
	}
	for _, cookie := range cookies {
		want := binary.BigEndian.AppendUint64(append([]byte{35}, make([]byte, 39)...), cookie)
		q := Query(cookie)
		if !bytes.Equal(q, want) {
			t.Fatalf("Query(%d): %v", cookie, q)
		}
		asked := api.Packet{Version: 4, Mode: 3, Xmit: cookie}
		if b, e := Put(asked); e != api.OK || !bytes.Equal(b, q) {
			t.Fatalf("Put(%v): %v %v", asked, b, e)
		}
		if p, e := Get(q); e != api.OK || p != asked {
			t.Fatalf("Get(Query(%d)): %v %v", cookie, p, e)
		}
	}
}

// P3.4: a packet is got of its bytes.
func TestPacketsThereAndBack(t *testing.T) {
	packets := []api.Packet{full, greatest}
	for _, c := range parts() {
		packets = append(packets, c.p)
	}
	for _, b := range some(20000) {
		packets = append(packets, packetOf(b))
	}
	for _, p := range packets {
		b, e := Put(p)
		if e != api.OK || len(b) != 48 {
			t.Fatalf("Put(%v): %v %v", p, b, e)
		}
		if back, e := Get(b); e != api.OK || back != p {
			t.Fatalf("%v came back as %v, %v", p, back, e)
		}
	}
}

// P3.4: what is got has just the first 48.
func TestBytesThereAndBack(t *testing.T) {
	for i, b := range some(20000) {
		first := bytes.Clone(b)
		p, e := Get(append(b, same(byte(i), i%5)...))
		if e != api.OK || Check(p) != api.OK {
			t.Fatalf("Get(%x): %v %v, checked %v", b, p, e, Check(p))
		}
		if back, e := Put(p); e != api.OK || !bytes.Equal(back, first) {
			t.Fatalf("%x came back as %x, %v", first, back, e)
		}
	}
}

// Rule 4: what is handed in isn't changed, nor what lies behind it.
func TestGetChangesNothing(t *testing.T) {
	for _, n := range []int{0, 1, 47, 48, 49, 60} {
		whole := []byte(fullBytes + fullBytes)
		Get(whole[:n])
		if string(whole) != fullBytes+fullBytes {
			t.Errorf("%d bytes: %x", n, whole)
		}
	}
}

// spoil writes over a list, and over what lies behind it in its memory.
func spoil(b []byte) {
	b = b[:cap(b)]
	for i := range b {
		b[i] = ^b[i]
	}
}

// Rule 4: no answer shares anything with another's.
func TestAnswersShareNothing(t *testing.T) {
	for _, answer := range []func() []byte{
		func() []byte { b, _ := Put(full); return b },
		func() []byte { b, _ := Put(api.Packet{}); return b },
		func() []byte { return Query(258) },
		func() []byte { return Query(0) },
	} {
		first, second := answer(), answer()
		want := bytes.Clone(second)
		spoil(first)
		if !bytes.Equal(second, want) {
			t.Errorf("%x was changed by the other to %x", want, second)
		}
		if third := answer(); !bytes.Equal(third, want) {
			t.Errorf("%x is now answered as %x", want, third)
		}
	}
}

// Rule 4: a packet that was got doesn't change with the bytes that it was got of.
func TestPacketsAreKeptApartFromBytes(t *testing.T) {
	b := []byte(fullBytes)
	p, _ := Get(b)
	spoil(b)
	if p != full {
		t.Error(p)
	}
}

// Numbers are written behind each other: any count of them, behind what is there, as many bytes of each as is asked.
func TestWrite(t *testing.T) {
	for _, c := range []struct {
		size    int
		numbers []uint64
		want    string
	}{
		{1, nil, "ab"},
		{1, []uint64{1}, "ab\x01"},
		{1, []uint64{255, 0, 7}, "ab\xff\x00\x07"},
		{4, []uint64{0x01020304, math.MaxUint32}, "ab\x01\x02\x03\x04\xff\xff\xff\xff"},
		{8, []uint64{258, 0x8000000000000001}, "ab\x00\x00\x00\x00\x00\x00\x01\x02\x80\x00\x00\x00\x00\x00\x00\x01"},
	} {
		if b := write([]byte("ab"), c.size, c.numbers...); string(b) != c.want {
			t.Errorf("%d bytes each of %v: %x, want %x", c.size, c.numbers, b, c.want)
		}
	}
}
