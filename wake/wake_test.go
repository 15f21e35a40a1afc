package wake

import (
	"math"
	"slices"
	"strconv"
	"sync"
	"testing"
)

const (
	least    = math.MinInt64
	greatest = math.MaxInt64
)

// chance are numbers that look like chance, and are the same each time.
type chance uint64

func (x *chance) next() uint64 {
	*x ^= *x << 13
	*x ^= *x >> 7
	*x ^= *x << 17
	return uint64(*x)
}

// spread is a number of any size.
func (x *chance) spread() int64 { return int64(x.next()) >> (x.next() % 64) }

// below is a number from 0 to n, less 1.
func (x *chance) below(n int) int { return int(x.next() % uint64(n)) }

// row is a key and its number.
type row[K comparable] struct {
	key K
	at  int64
}

// paper is a queue by the document's words: a plain list, the key that was set first ahead.
type paper[K comparable] struct{ rows []row[K] }

func (p *paper[K]) place(k K) int {
	return slices.IndexFunc(p.rows, func(r row[K]) bool { return r.key == k })
}

func (p *paper[K]) drop(k K) {
	if i := p.place(k); i >= 0 {
		p.rows = slices.Delete(p.rows, i, i+1)
	}
}

func (p *paper[K]) set(k K, at int64) {
	p.drop(k)
	p.rows = append(p.rows, row[K]{k, at})
}

func (p *paper[K]) at(k K) (int64, bool) {
	if i := p.place(k); i >= 0 {
		return p.rows[i].at, true
	}
	return 0, false
}

func (p *paper[K]) next() (int64, bool) {
	if len(p.rows) == 0 {
		return 0, false
	}
	at := p.rows[0].at
	for _, r := range p.rows {
		if r.at < at {
			at = r.at
		}
	}
	return at, true
}

// due takes the first of the least number again and again.
func (p *paper[K]) due(h int64) []K {
	rest := slices.Clone(p.rows)
	var keys []K
	for {
		first := -1
		for i, r := range rest {
			if r.at <= h && (first < 0 || r.at < rest[first].at) {
				first = i
			}
		}
		if first < 0 {
			return keys
		}
		keys = append(keys, rest[first].key)
		rest = slices.Delete(rest, first, first+1)
	}
}

// pair is a queue and its paper, to both of which the same is done.
type pair[K comparable] struct {
	q *Queue[K]
	p *paper[K]
}

func newPair[K comparable]() pair[K] { return pair[K]{New[K](), &paper[K]{}} }

func (x pair[K]) set(k K, at int64) {
	x.q.Set(k, at)
	x.p.set(k, at)
}

func (x pair[K]) drop(k K) {
	x.q.Drop(k)
	x.p.drop(k)
}

// same holds all that the queue tells of some keys and numbers against its paper.
func (x pair[K]) same(t *testing.T, keys []K, hs ...int64) {
	t.Helper()
	// Twice, and each behind the other: asking changes nothing.
	for range 2 {
		lenIs(t, x.q, len(x.p.rows))
		at, ok := x.p.next()
		nextIs(t, x.q, at, ok)
		for _, k := range keys {
			at, ok := x.p.at(k)
			atIs(t, x.q, k, at, ok)
		}
		for _, h := range hs {
			dueIs(t, x.q, h, x.p.due(h)...)
		}
	}
}

// around are a number, and those next to it, so far as there are any.
func around(at int64) []int64 {
	hs := []int64{at}
	if at > least {
		hs = append(hs, at-1)
	}
	if at < greatest {
		hs = append(hs, at+1)
	}
	return hs
}

// edges are all numbers next to those of the paper, and the ends.
func (x pair[K]) edges() []int64 {
	hs := []int64{least, 0, greatest}
	for _, r := range x.p.rows {
		hs = append(hs, around(r.at)...)
	}
	return hs
}

func lenIs[K comparable](t *testing.T, q *Queue[K], want int) {
	t.Helper()
	if n := q.Len(); n != want {
		t.Fatalf("Len: %d, want %d", n, want)
	}
}

func nextIs[K comparable](t *testing.T, q *Queue[K], want int64, there bool) {
	t.Helper()
	if at, ok := q.Next(); at != want || ok != there {
		t.Fatalf("Next: %d, %v, want %d, %v", at, ok, want, there)
	}
}

func atIs[K comparable](t *testing.T, q *Queue[K], k K, want int64, there bool) {
	t.Helper()
	if at, ok := q.At(k); at != want || ok != there {
		t.Fatalf("At(%#v): %d, %v, want %d, %v", k, at, ok, want, there)
	}
}

func dueIs[K comparable](t *testing.T, q *Queue[K], h int64, want ...K) {
	t.Helper()
	if keys := q.Due(h); !slices.Equal(keys, want) {
		t.Fatalf("Due(%d): %#v, want %#v", h, keys, want)
	}
}

// emptyIs holds all that a queue without keys tells.
func emptyIs[K comparable](t *testing.T, q *Queue[K], keys ...K) {
	t.Helper()
	lenIs(t, q, 0)
	nextIs(t, q, 0, false)
	for _, h := range []int64{least, least + 1, -1, 0, 1, greatest - 1, greatest} {
		dueIs(t, q, h)
	}
	for _, k := range keys {
		atIs(t, q, k, 0, false)
	}
}

// lone holds all that a queue of one key tells.
func lone[K comparable](t *testing.T, q *Queue[K], k K, at int64) {
	t.Helper()
	lenIs(t, q, 1)
	nextIs(t, q, at, true)
	atIs(t, q, k, at, true)
	dueIs(t, q, at, k)
	dueIs(t, q, greatest, k)
	if at > least {
		dueIs(t, q, at-1)
		dueIs(t, q, least)
	}
	if at < greatest {
		dueIs(t, q, at+1, k)
	}
}

// ends are numbers at the ends, below 0, 0, and above.
func ends() []int64 {
	return []int64{least, least + 1, -1 << 32, -5, -1, 0, 1, 5, 1 << 32, greatest - 1, greatest}
}

// P15.1, P15.2: a new queue is without keys.
func TestNew(t *testing.T) {
	q := New[string]()
	if q == nil {
		t.Fatal("none")
	}
	for range 2 {
		emptyIs(t, q, "", "a")
	}
	emptyIs(t, New[int](), 0, -1, 1)
	emptyIs(t, New[struct{}](), struct{}{})
	emptyIs(t, New[[2]bool](), [2]bool{})
}

// P15.1, P15.2: a key that is new, at each number.
func TestSetNew(t *testing.T) {
	for _, at := range ends() {
		q := New[string]()
		q.Set("a", at)
		for range 2 {
			lone(t, q, "a", at)
			atIs(t, q, "", 0, false)
			atIs(t, q, "b", 0, false)
		}
	}
}

// P15.1, P15.2: a key that is there, set at the same number, at lesser and at greater ones.
func TestSetAgain(t *testing.T) {
	for _, at := range ends() {
		for _, again := range ends() {
			q := New[string]()
			q.Set("a", at)
			q.Set("a", again)
			lone(t, q, "a", again)
			q.Set("a", again)
			lone(t, q, "a", again)
			q.Set("a", at)
			lone(t, q, "a", at)
		}
	}
}

// P15.1: a key that is set anew leaves the others.
func TestSetAgainBesideOthers(t *testing.T) {
	x := newPair[string]()
	names := []string{"a", "b", "c", "d"}
	for i, k := range names {
		x.set(k, int64(10*i))
	}
	for _, at := range []int64{10, 10, 5, 15, -3, 20, 20, 99, 0, 30, greatest, least, 10} {
		x.set("b", at)
		x.same(t, names, x.edges()...)
	}
	lenIs(t, x.q, 4)
}

// P15.1, P15.2: a key that is there, one that never was, and one that was dropped already.
func TestDrop(t *testing.T) {
	for _, at := range ends() {
		q := New[string]()
		q.Drop("a")
		emptyIs(t, q, "a", "b")
		q.Set("a", at)
		q.Drop("b")
		q.Drop("")
		lone(t, q, "a", at)
		q.Drop("a")
		emptyIs(t, q, "a", "b")
		q.Drop("a")
		emptyIs(t, q, "a", "b")
		for _, again := range ends() {
			q.Set("a", again)
			lone(t, q, "a", again)
			q.Drop("a")
			emptyIs(t, q, "a", "b")
		}
	}
}

// P15.1: Drop leaves the others, whichever goes.
func TestDropBesideOthers(t *testing.T) {
	names := []string{"a", "b", "c", "d", "e"}
	for _, gone := range names {
		x := newPair[string]()
		for i, k := range names {
			x.set(k, int64(i*7%5))
		}
		x.drop(gone)
		x.same(t, names, x.edges()...)
		lenIs(t, x.q, 4)
		x.drop(gone)
		x.same(t, names, x.edges()...)
		x.set(gone, 2)
		x.same(t, names, x.edges()...)
		for _, k := range names {
			x.drop(k)
			x.same(t, names, x.edges()...)
		}
		emptyIs(t, x.q, names...)
	}
}

// P15.2: Next of many keys is the least number, wherever it stands, and whatever becomes of the key that was next.
func TestNext(t *testing.T) {
	q := New[string]()
	nextIs(t, q, 0, false)
	q.Set("a", 7)
	nextIs(t, q, 7, true)
	q.Set("b", 9)
	nextIs(t, q, 7, true)
	q.Set("c", -2)
	nextIs(t, q, -2, true)
	q.Set("c", 8)
	nextIs(t, q, 7, true)
	q.Set("a", 3)
	nextIs(t, q, 3, true)
	q.Drop("b")
	nextIs(t, q, 3, true)
	q.Drop("a")
	nextIs(t, q, 8, true)
	q.Set("d", greatest)
	nextIs(t, q, 8, true)
	q.Drop("c")
	nextIs(t, q, greatest, true)
	q.Set("e", least)
	nextIs(t, q, least, true)
	q.Drop("e")
	q.Drop("d")
	nextIs(t, q, 0, false)
}

// P15.2: of two keys at the least number one may go.
func TestNextOfTheSameNumber(t *testing.T) {
	for _, at := range ends() {
		q := New[int]()
		q.Set(1, at)
		q.Set(2, at)
		nextIs(t, q, at, true)
		q.Drop(1)
		nextIs(t, q, at, true)
		q.Drop(2)
		nextIs(t, q, 0, false)
	}
}

// P15.2: a number is 0, and there is one.
func TestNextIsZero(t *testing.T) {
	q := New[int]()
	q.Set(0, 0)
	lone(t, q, 0, 0)
	q.Drop(0)
	emptyIs(t, q, 0)
}

// P15.2, P15.3: Due just at, one below and one above each number, of none and of all.
func TestDue(t *testing.T) {
	q := New[string]()
	for _, r := range []row[string]{{"zero", 0}, {"top", greatest}, {"minus", -4}, {"bottom", least}, {"five", 5}, {"six", 6}} {
		q.Set(r.key, r.at)
	}
	dueIs(t, q, least, "bottom")
	dueIs(t, q, least+1, "bottom")
	dueIs(t, q, -5, "bottom")
	dueIs(t, q, -4, "bottom", "minus")
	dueIs(t, q, -1, "bottom", "minus")
	dueIs(t, q, 0, "bottom", "minus", "zero")
	dueIs(t, q, 4, "bottom", "minus", "zero")
	dueIs(t, q, 5, "bottom", "minus", "zero", "five")
	dueIs(t, q, 6, "bottom", "minus", "zero", "five", "six")
	dueIs(t, q, 7, "bottom", "minus", "zero", "five", "six")
	dueIs(t, q, greatest-1, "bottom", "minus", "zero", "five", "six")
	dueIs(t, q, greatest, "bottom", "minus", "zero", "five", "six", "top")
	q.Drop("bottom")
	dueIs(t, q, least)
	dueIs(t, q, -5)
}

// P15.2: of the same number the one first that was set first, at each number, however many there are.
func TestSameNumber(t *testing.T) {
	for _, at := range ends() {
		for n := range 70 {
			q := New[int]()
			var want []int
			for i := range n {
				// Neither rising nor falling.
				k := i * 37 % 71
				q.Set(k, at)
				want = append(want, k)
			}
			dueIs(t, q, at, want...)
			dueIs(t, q, greatest, want...)
			if at > least {
				dueIs(t, q, at-1)
			}
		}
	}
}

// P15.2: a key that is set anew at its number is set then.
func TestSetAnewAtTheSameNumber(t *testing.T) {
	q := New[string]()
	for _, k := range []string{"a", "b", "c"} {
		q.Set(k, 5)
	}
	dueIs(t, q, 5, "a", "b", "c")
	q.Set("a", 5)
	dueIs(t, q, 5, "b", "c", "a")
	q.Set("c", 5)
	dueIs(t, q, 5, "b", "a", "c")
	q.Set("c", 5)
	dueIs(t, q, 5, "b", "a", "c")
	q.Set("b", 5)
	dueIs(t, q, 5, "a", "c", "b")
	lenIs(t, q, 3)
	nextIs(t, q, 5, true)
}

// P15.2: a key that was dropped and set again is set then.
func TestSetBehindDrop(t *testing.T) {
	q := New[string]()
	for _, k := range []string{"a", "b", "c"} {
		q.Set(k, 5)
	}
	q.Drop("a")
	dueIs(t, q, 5, "b", "c")
	q.Set("a", 5)
	dueIs(t, q, 5, "b", "c", "a")
	q.Drop("c")
	q.Set("c", 4)
	dueIs(t, q, 5, "c", "b", "a")
	q.Drop("b")
	q.Drop("c")
	q.Set("c", 5)
	q.Set("b", 5)
	dueIs(t, q, 5, "a", "c", "b")
	// Those that are gone leave no order behind.
	for _, k := range []string{"a", "b", "c"} {
		q.Drop(k)
	}
	for _, k := range []string{"c", "b", "a"} {
		q.Set(k, 5)
	}
	dueIs(t, q, 5, "c", "b", "a")
}

// P15.2: a key that was set to another number and back is set then.
func TestSetToAnotherNumberAndBack(t *testing.T) {
	for _, other := range []int64{least, 4, 6, greatest} {
		q := New[string]()
		for _, k := range []string{"a", "b", "c"} {
			q.Set(k, 5)
		}
		q.Set("a", other)
		if other < 5 {
			dueIs(t, q, 5, "a", "b", "c")
		} else {
			dueIs(t, q, 5, "b", "c")
			dueIs(t, q, other, "b", "c", "a")
		}
		q.Set("a", 5)
		dueIs(t, q, 5, "b", "c", "a")
		q.Set("d", other)
		q.Set("b", 5)
		q.Drop("d")
		dueIs(t, q, greatest, "c", "a", "b")
	}
}

// P15.2: a key comes among those of another number as the one that was set last, though it was there ahead of them.
func TestSetToTheNumberOfOthers(t *testing.T) {
	q := New[string]()
	q.Set("a", 1)
	q.Set("b", 2)
	q.Set("c", 2)
	q.Set("a", 2)
	dueIs(t, q, 2, "b", "c", "a")
	q.Set("d", 3)
	q.Set("b", 3)
	q.Set("c", 3)
	dueIs(t, q, 3, "a", "d", "b", "c")
	q.Set("d", 2)
	dueIs(t, q, 3, "a", "d", "b", "c")
	q.Set("a", 3)
	dueIs(t, q, 3, "d", "b", "c", "a")
}

// P15.2: what is asked for between two Sets, and in vain, plays no part in the order.
func TestAskingIsNoSet(t *testing.T) {
	q := New[string]()
	q.Set("a", 5)
	q.Set("b", 5)
	q.Due(5)
	q.At("a")
	q.Next()
	q.Len()
	q.Drop("x")
	dueIs(t, q, 5, "a", "b")
	q.At("x")
	lenIs(t, q, 2)
	atIs(t, q, "x", 0, false)
}

// P15.2: Due is the same however often it is asked, takes nothing out, and hangs on no order of a map.
func TestDueIsTheSame(t *testing.T) {
	x := newPair[int]()
	for i := range 40 {
		x.set(i*17%41, int64(i%4))
	}
	for range 50 {
		for _, h := range []int64{3, 0, -1, 2, 1, greatest, least} {
			dueIs(t, x.q, h, x.p.due(h)...)
		}
		lenIs(t, x.q, 40)
		nextIs(t, x.q, 0, true)
	}
}

// two is a queue of eight keys at two numbers, and what is due at the greater one.
func two() (*Queue[string], []string) {
	q := New[string]()
	for i, k := range []string{"a", "b", "c", "d", "e", "f", "g", "h"} {
		q.Set(k, int64(i%2))
	}
	return q, []string{"a", "c", "e", "g", "b", "d", "f", "h"}
}

// Rule 4: changing what Due answered changes nothing of the queue, nor of another answer.
func TestAnswersAreApart(t *testing.T) {
	q, want := two()
	first, second := q.Due(1), q.Due(1)
	for i := range first {
		first[i] = "x"
	}
	if !slices.Equal(second, want) {
		t.Fatal(second)
	}
	dueIs(t, q, 1, want...)
	slices.Reverse(second)
	dueIs(t, q, 1, want...)
	for _, k := range first {
		if k != "x" {
			t.Fatal(first)
		}
	}
	for _, k := range want {
		q.Set(k, 9)
		q.Drop(k)
	}
	slices.Reverse(second)
	if !slices.Equal(second, want) {
		t.Fatal("an answer was changed behind Set and Drop:", second)
	}
}

// Rule 4: appending to what Due answered changes nothing of the queue, nor of another answer; nothing lies behind.
func TestAnswersAreAppendedTo(t *testing.T) {
	q, want := two()
	for _, h := range []int64{least, -1, 0, 1, greatest} {
		first, second := q.Due(h), q.Due(h)
		for _, k := range first[:cap(first)][len(first):] {
			if k != "" {
				t.Fatal(k, "lies behind")
			}
		}
		told := slices.Clone(first)
		longer, other := append(first, "x", "y"), append(second, "z", "w")
		if !slices.Equal(longer, append(slices.Clone(told), "x", "y")) || !slices.Equal(other, append(slices.Clone(told), "z", "w")) {
			t.Fatal(longer, other)
		}
		dueIs(t, q, h, told...)
		dueIs(t, q, 1, want...)
	}
}

// keyed goes through every call with three keys that are not the same; zero is the zero one, and no other of them.
func keyed[K comparable](t *testing.T, zero, a, b K) {
	t.Helper()
	x := newPair[K]()
	keys := []K{zero, a, b}
	x.same(t, keys, ends()...)
	x.set(a, 5)
	lone(t, x.q, a, 5)
	atIs(t, x.q, zero, 0, false)
	for _, k := range []K{b, zero, a, a, b} {
		x.set(k, 5)
		x.same(t, keys, ends()...)
	}
	x.set(zero, -5)
	x.same(t, keys, ends()...)
	nextIs(t, x.q, -5, true)
	x.drop(zero)
	x.same(t, keys, ends()...)
	atIs(t, x.q, zero, 0, false)
	for _, k := range keys {
		x.drop(k)
		x.same(t, keys, ends()...)
	}
	emptyIs(t, x.q, keys...)
}

// P15.1 to P15.3 of keys of other types.
func TestKeys(t *testing.T) {
	type place struct{ x, y int }
	type named struct {
		name  string
		at    place
		marks [2]bool
	}
	type word string
	keyed(t, "", "a", "a ")
	keyed(t, "", "\x00", "\xff\x00")
	keyed[word](t, "", "b", "c")
	keyed(t, 0, -1, 1)
	keyed[int64](t, 0, least, greatest)
	keyed[uint64](t, 0, 1<<63, math.MaxUint64)
	keyed[byte](t, 0, 255, 128)
	keyed[rune](t, 0, 'a', -1)
	keyed(t, place{}, place{1, 2}, place{2, 1})
	keyed(t, named{}, named{"a", place{1, 2}, [2]bool{true, false}}, named{"a", place{1, 2}, [2]bool{false, true}})
	keyed(t, [3]int{}, [3]int{1, 2, 3}, [3]int{3, 2, 1})
	keyed(t, [2]string{}, [2]string{"a", ""}, [2]string{"", "a"})
	keyed(t, 0.0, 0.5, math.Inf(-1))
	keyed(t, 0i, 1i, 1)
	keyed(t, nil, new(int), new(int))
	keyed[any](t, nil, 1, "1")
	keyed[any](t, nil, int64(1), place{1, 1})
	keyed[error](t, nil, strconv.ErrRange, strconv.ErrSyntax)
}

// P15.1, P15.2: of bools there are just two, of an empty struct just one.
func TestFewKeys(t *testing.T) {
	q := New[bool]()
	q.Set(true, 5)
	lone(t, q, true, 5)
	atIs(t, q, false, 0, false)
	q.Set(false, 5)
	dueIs(t, q, 5, true, false)
	q.Set(true, 5)
	dueIs(t, q, 5, false, true)
	q.Drop(false)
	lone(t, q, true, 5)
	atIs(t, q, false, 0, false)
	e := New[struct{}]()
	e.Set(struct{}{}, 7)
	e.Set(struct{}{}, 3)
	lone(t, e, struct{}{}, 3)
	e.Drop(struct{}{})
	emptyIs(t, e, struct{}{})
	a := New[[0]int]()
	a.Set([0]int{}, 1)
	lone(t, a, [0]int{}, 1)
}

// P1: a key of an interface's type that can't be compared is no key; it leaves all as it is.
func TestKeysThatCannotBeCompared(t *testing.T) {
	type holder struct {
		name string
		held any
	}
	wrong := []any{[]int{1}, []int(nil), map[string]int{}, func() {}, holder{"a", []int{}}, [2]any{1, []string{}}, struct{ l []int }{}}
	q := New[any]()
	for _, k := range wrong {
		q.Set(k, 5)
		q.Drop(k)
		if at, ok := q.At(k); at != 0 || ok {
			t.Fatal(at, ok)
		}
		emptyIs(t, q, nil, any("a"))
	}
	q.Set("a", 5)
	q.Set(holder{"a", 1}, 5)
	for _, k := range wrong {
		q.Set(k, 5)
		q.Drop(k)
		if at, ok := q.At(k); at != 0 || ok {
			t.Fatal(at, ok)
		}
		lenIs(t, q, 2)
		dueIs[any](t, q, 5, "a", holder{"a", 1})
	}
	h := New[holder]()
	h.Set(holder{"a", []int{}}, 5)
	h.Drop(holder{"a", []int{}})
	emptyIs(t, h, holder{"a", 1})
}

// P1: a float that is no number is the same as none, not as itself either.
func TestKeysThatAreNoNumbers(t *testing.T) {
	none := math.NaN()
	q := New[float64]()
	q.Set(none, 5)
	q.Set(1, 5)
	q.Set(none, 3)
	q.Drop(none)
	atIs(t, q, none, 0, false)
	lenIs(t, q, 3)
	nextIs(t, q, 3, true)
	due := q.Due(5)
	if len(due) != 3 || !math.IsNaN(due[0]) || !math.IsNaN(due[1]) || due[2] != 1 {
		t.Fatal(due)
	}
	q.Set(0, 4)
	q.Set(math.Copysign(0, -1), 2)
	lenIs(t, q, 4)
	atIs(t, q, 0, 2, true)
}

// P2: two queues have nothing to do with one another.
func TestTwoQueues(t *testing.T) {
	a, b := newPair[string](), newPair[string]()
	names := []string{"a", "b", "c", "d"}
	both := func() {
		t.Helper()
		a.same(t, names, 0, 4, 5, 6, 9)
		b.same(t, names, 0, 4, 5, 6, 9)
	}
	both()
	a.set("a", 5)
	both()
	b.set("b", 5)
	b.set("a", 5)
	both()
	a.set("b", 5)
	both()
	// Whose first Set it is, the other's order isn't told by it.
	b.set("c", 4)
	a.set("a", 5)
	both()
	a.drop("b")
	both()
	b.drop("a")
	both()
	for _, k := range b.q.Due(9) {
		a.set(k, 6)
	}
	both()
	for _, k := range names {
		a.drop(k)
		both()
	}
	emptyIs(t, a.q, names...)
	dueIs(t, b.q, 9, "c", "b")
}

// nilTells holds all that a nil queue tells against the line in brackets.
func nilTells[K comparable](t *testing.T, k K) {
	t.Helper()
	var q *Queue[K]
	for _, at := range ends() {
		q.Set(k, at)
		emptyIs(t, q, k)
		q.Drop(k)
		emptyIs(t, q, k)
	}
}

// The line in brackets.
func TestNil(t *testing.T) {
	nilTells(t, "")
	nilTells(t, "a")
	nilTells(t, 0)
	nilTells(t, -7)
	nilTells(t, struct{ a, b int }{1, 2})
	nilTells(t, [2]bool{true, false})
	nilTells[any](t, nil)
	var q *Queue[any]
	q.Set([]int{}, 1)
	q.Drop([]int{})
	if at, ok := q.At([]int{}); at != 0 || ok {
		t.Error(at, ok)
	}
}

// orders hands do each order of some things. What it is handed is written over behind that.
func orders[T any](things []T, do func([]T)) {
	var swap func(int)
	swap = func(n int) {
		if n == len(things) {
			do(things)
			return
		}
		for i := n; i < len(things); i++ {
			things[n], things[i] = things[i], things[n]
			swap(n + 1)
			things[n], things[i] = things[i], things[n]
		}
	}
	swap(0)
}

// P15.2: six keys in all orders, at numbers of which some are the same.
func TestAllOrders(t *testing.T) {
	for _, numbers := range [][]int64{{0, 1, 2, 3, 4, 5}, {1, 1, 1, 1, 1, 1}, {0, 0, 1, 1, 2, 2}, {-1, 0, 0, 0, 0, 1}, {least, least, greatest, greatest, 0, 0}} {
		orders([]int{0, 1, 2, 3, 4, 5}, func(keys []int) {
			x := newPair[int]()
			for _, k := range keys {
				x.set(k, numbers[k])
			}
			x.same(t, keys, numbers...)
			x.set(keys[2], numbers[keys[2]])
			x.drop(keys[4])
			x.same(t, keys, numbers...)
			x.set(keys[4], numbers[keys[0]])
			x.same(t, keys, numbers...)
		})
	}
}

// P15.1 to P15.3: Sets and Drops in any order, held against a plain list that is gone through.
func TestAgainstAList(t *testing.T) {
	x := chance(88172645463325252)
	for _, most := range []int{1, 2, 3, 5, 8, 20, 60} {
		for _, numbers := range []int{1, 2, 4, 30} {
			p := newPair[int]()
			keys := make([]int, most)
			for i := range keys {
				keys[i] = i
			}
			for range 600 {
				k := x.below(most)
				if x.below(3) == 0 {
					p.drop(k)
				} else {
					p.set(k, int64(x.below(numbers)-numbers/2))
				}
				h := int64(x.below(numbers+2) - numbers/2 - 1)
				p.same(t, keys, h, greatest, least)
			}
		}
	}
}

// P15.1 to P15.3: the same of numbers of any size, and of texts.
func TestAgainstAListOfAnyNumbers(t *testing.T) {
	x := chance(1181783497276652981)
	for range 40 {
		p := newPair[string]()
		var keys []string
		for i := range 25 {
			keys = append(keys, strconv.Itoa(i*i))
		}
		for range 120 {
			k := keys[x.below(len(keys))]
			if x.below(4) == 0 {
				p.drop(k)
			} else {
				p.set(k, x.spread())
			}
			hs := []int64{x.spread(), least, greatest}
			if at, ok := p.p.at(k); ok {
				hs = append(hs, around(at)...)
			}
			p.same(t, keys, hs...)
		}
		p.same(t, keys, p.edges()...)
	}
}

// P15.3: Next is when something is first due.
func TestNextIsFirstDue(t *testing.T) {
	x := chance(6364136223846793005)
	for range 2000 {
		q := New[int]()
		for range x.below(12) + 1 {
			q.Set(x.below(20), x.spread())
		}
		at, ok := q.Next()
		due := q.Due(at)
		if !ok || len(due) == 0 || at > least && len(q.Due(at-1)) != 0 {
			t.Fatal(at, ok, due)
		}
		for _, k := range due {
			atIs(t, q, k, at, true)
		}
		all := q.Due(greatest)
		if len(all) != q.Len() {
			t.Fatal(all, q.Len())
		}
		for i := 1; i < len(all); i++ {
			a, _ := q.At(all[i-1])
			b, _ := q.At(all[i])
			if a > b {
				t.Fatal(all[i-1], a, "ahead of", all[i], b)
			}
		}
	}
}

// P15.1, P15.2: many keys.
func TestManyKeys(t *testing.T) {
	const n = 20000
	q := New[int]()
	for i := range n {
		q.Set(i, int64(i%7))
	}
	for i := 0; i < n; i += 3 {
		q.Drop(i)
	}
	for i := n - 1; i >= 0; i -= 2 {
		q.Set(i, 3)
	}
	var want []int
	for r := range int64(7) {
		for i := range n {
			if i%2 == 0 && i%3 != 0 && int64(i%7) == r {
				want = append(want, i)
			}
		}
		if r == 3 {
			for i := n - 1; i >= 0; i -= 2 {
				want = append(want, i)
			}
		}
	}
	lenIs(t, q, len(want))
	dueIs(t, q, 6, want...)
	nextIs(t, q, 0, true)
}

// What is kept are the keys that are there, not those that were.
func TestNothingIsHeld(t *testing.T) {
	q := New[int]()
	for i := range 100000 {
		q.Set(i, int64(i))
		q.Set(i, 0)
		q.Drop(i)
	}
	if len(q.keys) != 0 {
		t.Error(len(q.keys))
	}
	emptyIs(t, q, 0, 99999)
}

// The chapter's example.
func TestExample(t *testing.T) {
	q := New[string]()
	q.Set("a", 5)
	q.Set("b", 3)
	q.Set("a", 4)
	nextIs(t, q, 3, true)
	dueIs(t, q, 4, "b", "a")
}

// Rule 6: calls may be made by many goroutines at a time, each of a queue of its own.
func TestManyGoroutines(t *testing.T) {
	var wait sync.WaitGroup
	for i := range 16 {
		wait.Go(func() {
			x := newPair[int]()
			for n := range 300 {
				x.set(n*7%50, int64(n%(i+2)))
				x.drop(n * 3 % 50)
			}
			at, ok := x.q.Next()
			if want, there := x.p.next(); at != want || ok != there || !slices.Equal(x.q.Due(greatest), x.p.due(greatest)) {
				t.Error(i, at, ok, want, there)
			}
		})
	}
	wait.Wait()
}
