package median

import (
	"cmp"
	"math"
	"slices"
	"strconv"
	"strings"
	"sync"
	"testing"

	"chronobate/api"
)

const (
	least    = math.MinInt64
	greatest = math.MaxInt64
)

// chance are numbers that look like chance, and are the same each time.
type chance uint64

func (x *chance) next() uint64 {
	*x ^= *x << 13
	*x ^= *x >> 7
	*x ^= *x << 17
	return uint64(*x)
}

// spread is a number of any size.
func (x *chance) spread() int64 { return int64(x.next()) >> (x.next() % 64) }

// below is a number from 0 on, less than n.
func (x *chance) below(n int) int { return int(x.next() % uint64(n)) }

// numbers are n of any size; every third one is one of few, so that some are there many times.
func (x *chance) numbers(n int) []int64 {
	out := make([]int64, n)
	for i := range out {
		out[i] = x.spread()
		if i%3 == 0 {
			out[i] = int64(x.below(5)) - 2
		}
	}
	return out
}

// ordered is a list in order, made by putting each one in ahead of the first that is greater.
func ordered[T cmp.Ordered](l []T) []T {
	var out []T
	for _, x := range l {
		at := 0
		for at < len(out) && !(x < out[at]) {
			at++
		}
		out = slices.Insert(out, at, x)
	}
	return out
}

// oftenIn is how often one is in a list.
func oftenIn[T comparable](x T, l []T) int {
	n := 0
	for _, y := range l {
		if x == y {
			n++
		}
	}
	return n
}

// ranks is where one stands in a list that is in order: what is ahead of the first that isn't less, and of the first that is greater.
func ranks[T cmp.Ordered](x T, inOrder []T) (int, int) {
	first := 0
	for first < len(inOrder) && inOrder[first] < x {
		first++
	}
	behind := first
	for behind < len(inOrder) && inOrder[behind] == x {
		behind++
	}
	return first, behind
}

// tells holds all that the calls tell of a list, and of more that Rank is asked for, against what they should.
func tells[T cmp.Ordered](t *testing.T, l []T, more ...T) {
	t.Helper()
	own, want := slices.Clone(l), ordered(l)
	// Twice: asking changes nothing.
	for range 2 {
		sortedIs(t, l, want)
		if len(l) == 0 {
			noneIs(t, l)
		} else {
			middleAndEndsAre(t, l, want)
		}
		for _, x := range append(slices.Clone(more), l...) {
			below, upTo := ranks(x, want)
			rankIs(t, x, l, below, upTo)
		}
		if !slices.Equal(l, own) {
			t.Fatalf("%v was changed to %v", own, l)
		}
	}
}

// sortedIs holds what Sorted tells against what it should, and against the promise's own words.
func sortedIs[T cmp.Ordered](t *testing.T, l, want []T) {
	t.Helper()
	got := Sorted(l...)
	if !slices.Equal(got, want) {
		t.Fatalf("Sorted(%v): %v, want %v", l, got, want)
	}
	for i, x := range got {
		if i > 0 && x < got[i-1] || oftenIn(x, got) != oftenIn(x, l) {
			t.Fatalf("Sorted(%v): %v, place %d", l, got, i)
		}
	}
}

// noneIs holds what Of and Spread tell against there being none.
func noneIs[T cmp.Ordered](t *testing.T, l []T) {
	t.Helper()
	var zero T
	if x, e := Of(l...); x != zero || e != api.ErrNone {
		t.Fatalf("Of none: %v, %v", x, e)
	}
	if lo, hi, e := Spread(l...); lo != zero || hi != zero || e != api.ErrNone {
		t.Fatalf("Spread of none: %v, %v, %v", lo, hi, e)
	}
}

// middleAndEndsAre holds what Of and Spread tell against a list in order.
func middleAndEndsAre[T cmp.Ordered](t *testing.T, l, inOrder []T) {
	t.Helper()
	ofIs(t, l, inOrder[(len(l)-1)/2])
	spreadIs(t, l, inOrder[0], inOrder[len(l)-1])
}

// ofIs holds what Of tells against what it should.
func ofIs[T cmp.Ordered](t *testing.T, l []T, want T) {
	t.Helper()
	if x, e := Of(l...); x != want || e != api.OK {
		t.Fatalf("Of(%v): %v, %v, want %v", l, x, e, want)
	}
}

// spreadIs holds what Spread tells against what it should.
func spreadIs[T cmp.Ordered](t *testing.T, l []T, lo, hi T) {
	t.Helper()
	if a, b, e := Spread(l...); a != lo || b != hi || e != api.OK {
		t.Fatalf("Spread(%v): %v, %v, %v, want %v, %v", l, a, b, e, lo, hi)
	}
}

// rankIs holds what Rank tells against what it should.
func rankIs[T cmp.Ordered](t *testing.T, x T, l []T, below, upTo int) {
	t.Helper()
	if a, b := Rank(x, l...); a != below || b != upTo {
		t.Fatalf("Rank(%v, %v): %d, %d, want %d, %d", x, l, a, b, below, upTo)
	}
}

// orders calls do with a list in each of its orders.
func orders[T any](l []T, do func([]T)) {
	own := slices.Clone(l)
	var from func(int)
	from = func(at int) {
		if at == len(own) {
			do(own)
			return
		}
		for i := at; i < len(own); i++ {
			own[at], own[i] = own[i], own[at]
			from(at + 1)
			own[at], own[i] = own[i], own[at]
		}
	}
	from(0)
}

// noneOf are all lists of a type without elements: nil, made empty, and cut to nothing.
func noneOf[T any](x T) [][]T {
	return [][]T{nil, {}, make([]T, 0, 5), []T{x, x, x}[:0], []T{x, x, x}[1:1], []T{x}[1:]}
}

// P11.1, P11.2: of none.
func TestNone(t *testing.T) {
	for _, l := range noneOf[int64](7) {
		tells(t, l, 0, 7, least, greatest)
	}
	for _, l := range noneOf("seven") {
		tells(t, l, "", "seven", "x")
	}
	for _, l := range noneOf(7.5) {
		tells(t, l, 0, 7.5, math.Inf(-1), math.Inf(1))
	}
	for _, l := range noneOf[uint8](7) {
		tells(t, l, 0, 7, 255)
	}
	if n := len(Sorted[int64]()); n != 0 {
		t.Error(n)
	}
	if x, e := Of[string](); x != "" || e != api.ErrNone {
		t.Error(x, e)
	}
	if lo, hi, e := Spread[float64](); lo != 0 || hi != 0 || e != api.ErrNone {
		t.Error(lo, hi, e)
	}
	if a, b := Rank("x"); a != 0 || b != 0 {
		t.Error(a, b)
	}
}

// P11.1, P11.2: of one, two, three, four and five, with what is told written out.
func TestFew(t *testing.T) {
	for _, c := range []struct {
		l, sorted   []int64
		of, lo, hi  int64
		x           int64
		below, upTo int
	}{
		{[]int64{5}, []int64{5}, 5, 5, 5, 5, 0, 1},
		{[]int64{0}, []int64{0}, 0, 0, 0, 1, 1, 1},
		{[]int64{-5}, []int64{-5}, -5, -5, -5, -6, 0, 0},
		{[]int64{5, 1}, []int64{1, 5}, 1, 1, 5, 3, 1, 1},
		{[]int64{1, 5}, []int64{1, 5}, 1, 1, 5, 5, 1, 2},
		{[]int64{4, 4}, []int64{4, 4}, 4, 4, 4, 4, 0, 2},
		{[]int64{5, 1, 9}, []int64{1, 5, 9}, 5, 1, 9, 9, 2, 3},
		{[]int64{9, 1, 1}, []int64{1, 1, 9}, 1, 1, 9, 1, 0, 2},
		{[]int64{1, 9, 9}, []int64{1, 9, 9}, 9, 1, 9, 8, 1, 1},
		{[]int64{5, 1, 9, 7}, []int64{1, 5, 7, 9}, 5, 1, 9, 7, 2, 3},
		{[]int64{2, 2, 2, 1}, []int64{1, 2, 2, 2}, 2, 1, 2, 2, 1, 4},
		{[]int64{3, 3, 1, 1}, []int64{1, 1, 3, 3}, 1, 1, 3, 2, 2, 2},
		{[]int64{-1, -5, 3, 3, 3}, []int64{-5, -1, 3, 3, 3}, 3, -5, 3, 0, 2, 2},
		{[]int64{1, 3, 3, 5, 2}, []int64{1, 2, 3, 3, 5}, 3, 1, 5, 3, 2, 4},
		{[]int64{9, 8, 7, 6, 5, 4}, []int64{4, 5, 6, 7, 8, 9}, 6, 4, 9, 100, 6, 6},
		{[]int64{-9, 0, 9, -9, 0, 9, 0}, []int64{-9, -9, 0, 0, 0, 9, 9}, 0, -9, 9, -100, 0, 0},
	} {
		sortedIs(t, c.l, c.sorted)
		ofIs(t, c.l, c.of)
		spreadIs(t, c.l, c.lo, c.hi)
		rankIs(t, c.x, c.l, c.below, c.upTo)
		tells(t, c.l)
	}
}

// P11.1, P11.2: of each number of things up to some hundreds: all the same, rising, falling, to and fro.
func TestManyNumbers(t *testing.T) {
	for n := range 70 {
		shapes(t, n)
	}
	for _, n := range []int{127, 128, 129, 300, 301, 512, 513} {
		shapes(t, n)
	}
}

// shapes holds what is told of n things that stand in plain orders.
func shapes(t *testing.T, n int) {
	t.Helper()
	same, rise, fall, toAndFro, hill := make([]int64, n), make([]int64, n), make([]int64, n), make([]int64, n), make([]int64, n)
	for i := range n {
		k := int64(i)
		same[i], rise[i], fall[i], toAndFro[i], hill[i] = 7, 3*k-50, 50-3*k, k%4*(k%2*2-1), min(k, int64(n)-k)
	}
	for _, l := range [][]int64{same, rise, fall, toAndFro, hill} {
		tells(t, l, least, -51, 0, 7, 51, greatest)
	}
	if n > 0 {
		ofIs(t, same, 7)
		ofIs(t, rise, 3*int64((n-1)/2)-50)
		ofIs(t, fall, 50-3*int64(n/2))
		spreadIs(t, rise, -50, 3*int64(n)-53)
		spreadIs(t, fall, 53-3*int64(n), 50)
	}
}

// P11.1, P11.2: the order in which they stand makes no difference: all orders of up to six, each different or some the same.
func TestEveryOrder(t *testing.T) {
	for _, l := range [][]int64{
		{},
		{1}, {1, 2}, {1, 2, 3}, {1, 2, 3, 4}, {1, 2, 3, 4, 5}, {1, 2, 3, 4, 5, 6},
		{1, 1}, {1, 1, 2}, {1, 2, 2}, {1, 1, 2, 2}, {1, 2, 2, 2}, {1, 1, 2, 3, 3}, {0, 0, 0, 0, 1}, {1, 1, 1, 2, 2, 2}, {1, 2, 2, 3, 3, 3}, {-1, 0, 0, 0, 0, 1},
		{least, least, -1, 0, greatest, greatest}, {least, least + 1, 0, greatest - 1, greatest},
	} {
		orders(l, func(o []int64) {
			sortedIs(t, o, l)
			tells(t, o, least, -1, 0, 2, 4, 7, greatest)
		})
	}
	texts := []string{"", "a", "a\x00", "aa", "ab", "b"}
	orders(texts, func(o []string) {
		sortedIs(t, o, texts)
		tells(t, o, "A", "a\x00b", "z")
	})
}

// P11.1: all lists of up to five of the numbers 0 to 3, so that each way to be the same is there.
func TestEveryList(t *testing.T) {
	var from func(l []int64)
	from = func(l []int64) {
		tells(t, l, -1, 0, 1, 2, 3, 4)
		if len(l) == 5 {
			return
		}
		for x := range int64(4) {
			from(append(slices.Clone(l), x))
		}
	}
	from(nil)
}

// P11.1, P11.2: some hundreds of any size, and many lists of any length.
func TestByChance(t *testing.T) {
	x := chance(88172645463325252)
	for range 2000 {
		tells(t, x.numbers(x.below(30)), x.spread(), least, 0, greatest)
	}
	for range 20 {
		tells(t, x.numbers(200+x.below(400)), x.spread(), least, 0, greatest)
	}
}

// P11.1: thousands, which other ways to sort are taken for.
func TestThousands(t *testing.T) {
	x := chance(362436069)
	for _, n := range []int{4999, 5000} {
		l := x.numbers(n)
		own := slices.Clone(l)
		want := ordered(l)
		if !slices.Equal(Sorted(l...), want) || !slices.Equal(l, own) {
			t.Error(n)
		}
		middleAndEndsAre(t, l, want)
	}
}

// Rule 5: the least and the greatest int64, and their neighbours, are numbers as others are.
func TestEnds(t *testing.T) {
	tells(t, []int64{least}, least, least+1, greatest)
	tells(t, []int64{greatest}, least, greatest-1, greatest)
	tells(t, []int64{greatest, least}, 0, -1)
	ofIs(t, []int64{greatest, least}, least)
	ofIs(t, []int64{greatest, least, greatest}, greatest)
	ofIs(t, []int64{greatest, 0, least}, 0)
	spreadIs(t, []int64{0, greatest, -1, least, 1}, least, greatest)
	rankIs(t, least, []int64{0, greatest, least, -1, least}, 0, 2)
	rankIs(t, greatest, []int64{0, greatest, least, -1, least}, 4, 5)
	rankIs(t, 0, []int64{greatest, least, least}, 2, 2)
	tells(t, []int64{greatest - 1, least + 1, greatest, least, 1 << 62, -1 << 62, 0, -1, 1})
}

// P11.2: one that is there once, many times, not there, below all and above all.
func TestRank(t *testing.T) {
	l := []int64{40, 10, 30, 30, 20, 30, 50, 10}
	for _, c := range []struct {
		x           int64
		below, upTo int
	}{{40, 6, 7}, {20, 2, 3}, {50, 7, 8}, {30, 3, 6}, {10, 0, 2}, {11, 2, 2}, {29, 3, 3}, {31, 6, 6}, {49, 7, 7}, {9, 0, 0}, {least, 0, 0}, {51, 8, 8}, {greatest, 8, 8}} {
		rankIs(t, c.x, l, c.below, c.upTo)
	}
	same := slices.Repeat([]int64{5}, 300)
	rankIs(t, 5, same, 0, 300)
	rankIs(t, 4, same, 0, 0)
	rankIs(t, 6, same, 300, 300)
}

// P11.1, P11.2: where Of stands by its Rank.
func TestRankOfMiddle(t *testing.T) {
	x := chance(521288629)
	for range 2000 {
		l := x.numbers(1 + x.below(40))
		m, _ := Of(l...)
		if below, upTo := Rank(m, l...); below > (len(l)-1)/2 || upTo <= (len(l)-1)/2 {
			t.Fatalf("Of(%v): %d, of rank %d, %d", l, m, below, upTo)
		}
	}
}

// P11.1, P11.2 of each type of whole numbers, with its ends.
func TestWholeNumbers(t *testing.T) {
	type mine int8
	tells(t, []int8{127, -128, 0, -1, 1, 127}, -127, 126)
	tells(t, []int16{32767, -32768, 0, 300, -300}, 1, -1)
	tells(t, []int32{math.MaxInt32, math.MinInt32, 0, -1}, 1, 5)
	tells(t, []int{math.MaxInt, math.MinInt, 0, -1, 1}, 7)
	tells(t, []uint8{255, 0, 128, 127, 1, 128}, 200, 2)
	tells(t, []uint16{65535, 0, 32768, 32767}, 1)
	tells(t, []uint32{math.MaxUint32, 0, 1 << 31, 1<<31 - 1}, 1)
	tells(t, []uint64{math.MaxUint64, 0, 1 << 63, 1<<63 - 1, 1}, 2, 1<<63+1)
	tells(t, []uint{math.MaxUint, 0, 7}, 8)
	tells(t, []uintptr{9, 0, 7}, 8)
	tells(t, []mine{3, -128, 127, 0}, -1)
	tells(t, []api.Errno{api.ErrLack, api.OK, api.ErrNil}, api.ErrArg)
	// These would stand otherwise, were they taken for numbers with a sign.
	ofIs(t, []uint64{1 << 63, 5, 1<<63 - 1}, 1<<63-1)
	spreadIs(t, []uint8{200, 100, 150}, 100, 200)
	ofIs(t, []mine{5, -100, 7}, 5)
	bytes := make([]uint8, 700)
	for i := range bytes {
		bytes[i] = uint8(i * 37)
	}
	tells(t, bytes, 0, 255)
}

// P11.1, P11.2 of floats, those that have no end among them.
func TestFloats(t *testing.T) {
	up, down := math.Inf(1), math.Inf(-1)
	orders([]float64{down, -1.5, 0, math.SmallestNonzeroFloat64, up}, func(o []float64) {
		ofIs(t, o, 0)
		spreadIs(t, o, down, up)
		tells(t, o, -math.MaxFloat64, -1, 1e-300, math.MaxFloat64, up, down)
	})
	tells(t, []float64{0.1, 0.1 + 0.2, 0.3, -0.1}, 0.2)
	tells(t, []float64{1<<53 + 2, 1 << 53, 1<<53 - 1}, 1<<53+1)
	tells(t, []float32{2.5, -2.5, float32(up), float32(down), 0}, 1.25, math.MaxFloat32)
	type mine float32
	tells(t, []mine{2.5, -1, 2.25}, 2.375)
}

// Both zeros are equal, but each is told as often as it is there.
func TestTwoZeros(t *testing.T) {
	zero, other := 0.0, math.Copysign(0, -1)
	orders([]float64{zero, other, other, 1, -1}, func(o []float64) {
		tells(t, o, zero, other)
		rankIs(t, zero, o, 1, 4)
		rankIs(t, other, o, 1, 4)
		signs := 0
		for _, x := range Sorted(o...) {
			if math.Signbit(x) {
				signs++
			}
		}
		if signs != 3 {
			t.Fatalf("%d of %v have a sign, want 3", signs, Sorted(o...))
		}
	})
}

// P11.1, P11.2 of texts. They go by their bytes: the empty one is ahead of all, one that another begins with is ahead of that.
func TestTexts(t *testing.T) {
	type word string
	want := []string{"", "\x00", "10", "9", "A", "a", "a\x00", "ab", "abc", "b", "é", "日", "\xff"}
	x := chance(7777777)
	for range 500 {
		l := slices.Clone(want)
		for i := range l {
			j := i + x.below(len(l)-i)
			l[i], l[j] = l[j], l[i]
		}
		sortedIs(t, l, want)
		ofIs(t, l, "a\x00")
		spreadIs(t, l, "", "\xff")
		tells(t, l, "a\x01", "abcd", "\x00\x00", "zz", "\xff\xff")
	}
	rankIs(t, "ab", []string{"abc", "a", "ab", "ab", ""}, 2, 4)
	rankIs(t, "", []string{"abc", "", "a", ""}, 0, 2)
	rankIs(t, "", []string{"a"}, 0, 0)
	tells(t, []string{"", "", ""}, "", "x")
	ofIs(t, []string{"ba", "", "b"}, "b")
	tells(t, []word{"same", "sam", "same"}, "s")
	var many []string
	for i := range 400 {
		many = append(many, strings.Repeat("x", i%50)+strconv.Itoa(i))
	}
	tells(t, many, "", "x", "y")
}

// Calls whose things are written out, not spread from a list.
func TestWrittenOut(t *testing.T) {
	if l := Sorted(3, 1, 2, 1); !slices.Equal(l, []int{1, 1, 2, 3}) {
		t.Error(l)
	}
	if x, e := Of("c", "a", "b"); x != "b" || e != api.OK {
		t.Error(x, e)
	}
	if lo, hi, e := Spread(2.5, -1, 7); lo != -1 || hi != 7 || e != api.OK {
		t.Error(lo, hi, e)
	}
	if a, b := Rank(3, 1, 3, 3, 5, 2); a != 2 || b != 4 {
		t.Error(a, b)
	}
	// The first one is what is asked for, not one of them.
	if a, b := Rank(3); a != 0 || b != 0 {
		t.Error(a, b)
	}
}

// inside is a list in the middle of a longer one's memory, and the longer one.
func inside(l []int64) (list, whole []int64) {
	whole = append([]int64{-77, 99}, l...)
	whole = append(whole, least, greatest, 0, -5, 5)
	return whole[2 : 2+len(l)], whole
}

// Rule 4: what lies ahead of a list and behind its length plays no part, and stays.
func TestBehindLength(t *testing.T) {
	x := chance(1234567)
	for n := range 60 {
		l := x.numbers(n)
		list, whole := inside(l)
		own := slices.Clone(whole)
		tells(t, list, least, greatest, 0, 5)
		sortedIs(t, list, ordered(l))
		if !slices.Equal(whole, own) {
			t.Fatalf("%v was changed to %v", own, whole)
		}
	}
}

// Rule 4: what Sorted tells is a list of its own: who changes it, or appends to it, changes neither what was handed in nor another answer.
func TestSortedIsApart(t *testing.T) {
	x := chance(7654321)
	for n := range 60 {
		l := x.numbers(n)
		if n%2 == 0 {
			// In order already: there is nothing to do, but a list to make.
			l = ordered(l)
		}
		want := ordered(l)
		list, whole := inside(l)
		own := slices.Clone(whole)
		first, second := Sorted(list...), Sorted(list...)
		for _, behind := range [][]int64{first[len(first):cap(first)], second[len(second):cap(second)]} {
			if slices.ContainsFunc(behind, func(x int64) bool { return x != 0 }) {
				t.Fatalf("%v lies behind", behind)
			}
		}
		longer, other := append(first, 1, 2, 3), append(second, 4, 5, 6)
		for i := range first {
			first[i] = 1234
		}
		if !slices.Equal(second, want) || !slices.Equal(other, append(slices.Clone(want), 4, 5, 6)) || !slices.Equal(longer[n:], []int64{1, 2, 3}) {
			t.Fatalf("of %v: %v, %v, %v", l, second, longer, other)
		}
		for i := range list {
			list[i] = 4321
		}
		if !slices.Equal(second, want) {
			t.Fatalf("%v goes with what was handed in", second)
		}
		copy(list, l)
		if !slices.Equal(whole, own) {
			t.Fatalf("%v was changed to %v", own, whole)
		}
	}
}

// holds tells whether Of a list is between the least and the greatest one of the others, by the promise's words.
func holds[T cmp.Ordered](t *testing.T, changed, others []T) {
	t.Helper()
	m, e := Of(changed...)
	if e != api.OK || m < slices.Min(others) || m > slices.Max(others) {
		t.Fatalf("Of(%v): %v, %v, and the others are %v", changed, m, e, others)
	}
}

// P11.3: fewer than half turned into the least, into the greatest, into some of both, into anything.
func TestFewerThanHalfChanged(t *testing.T) {
	x := chance(2463534242)
	for n := 1; n <= 17; n++ {
		for range 60 {
			l := x.numbers(n)
			for turned := 0; 2*turned < n; turned++ {
				at := x.below(n)
				// Those that are turned stand one behind the other, from any place on, round the end.
				isTurned := func(i int) bool { return (i-at+n)%n < turned }
				var others []int64
				for i, y := range l {
					if !isTurned(i) {
						others = append(others, y)
					}
				}
				for _, into := range []func(int) int64{
					func(int) int64 { return least },
					func(int) int64 { return greatest },
					func(i int) int64 { return []int64{least, greatest}[i%2] },
					func(int) int64 { return slices.Min(others) },
					func(int) int64 { return slices.Max(others) },
					func(int) int64 { return x.spread() },
					func(int) int64 { return 0 },
				} {
					changed := slices.Clone(l)
					for i := range changed {
						if isTurned(i) {
							changed[i] = into(i)
						}
					}
					holds(t, changed, others)
				}
			}
		}
	}
}

// P11.3: each set of fewer than half of up to eight, turned into the least and into the greatest.
func TestEverySetChanged(t *testing.T) {
	for n := 1; n <= 8; n++ {
		l := make([]int64, n)
		for i := range l {
			l[i] = int64(i * 5 % n * 10)
		}
		for set := range 1 << n {
			low, high := slices.Clone(l), slices.Clone(l)
			var others []int64
			for i, y := range l {
				if set>>i&1 == 0 {
					others = append(others, y)
				} else {
					low[i], high[i] = least, greatest
				}
			}
			if 2*(n-len(others)) < n {
				holds(t, low, others)
				holds(t, high, others)
			}
		}
	}
}

// P11.3 of texts and of floats.
func TestFewerThanHalfOfOtherTypes(t *testing.T) {
	holds(t, []string{"k", "", "m", "", "l"}, []string{"k", "m", "l"})
	holds(t, []string{"k", "\xff\xff", "m", "\xff", "l"}, []string{"k", "m", "l"})
	holds(t, []float64{1.5, math.Inf(1), 1.25}, []float64{1.5, 1.25})
	holds(t, []float64{1.5, math.Inf(-1), 1.25, 1.75}, []float64{1.5, 1.25, 1.75})
	holds(t, []uint8{200, 255, 0, 210, 220}, []uint8{200, 210, 220})
}

// The chapter's examples.
func TestExamples(t *testing.T) {
	ofIs(t, []int64{5, 1, 9}, 5)
	ofIs(t, []int64{5, 1, 9, 7}, 5)
}

// Rule 6: calls may be made by many goroutines at a time, of one list.
func TestManyGoroutines(t *testing.T) {
	x := chance(99999)
	l := x.numbers(301)
	want := ordered(l)
	below, upTo := ranks(0, want)
	var wait sync.WaitGroup
	for range 16 {
		wait.Go(func() {
			for range 50 {
				m, e := Of(l...)
				lo, hi, e2 := Spread(l...)
				a, b := Rank(0, l...)
				if m != want[150] || lo != want[0] || hi != want[300] || a != below || b != upTo || max(e, e2) != api.OK || !slices.Equal(Sorted(l...), want) {
					t.Error(m, e, lo, hi, e2, a, b)
				}
			}
		})
	}
	wait.Wait()
}
