package count

import (
	"fmt"
	"math"
	"slices"
	"strings"
	"sync"
	"testing"

	"chronobate/api"
	"chronobate/sane"
)

// allNames are the reasons' names by the document's words, each at its reason's number.
var allNames = []string{
	"taken", "short", "unknown", "retired", "idle", "version", "mode",
	"origin", "kiss", "leap", "stratum", "zero", "slow",
}

// chance are numbers that look like chance, and are the same each time.
type chance uint64

func (x *chance) next() uint64 {
	*x ^= *x << 13
	*x ^= *x >> 7
	*x ^= *x << 17
	return uint64(*x)
}

// below is a number from 0 to n, less 1.
func (x *chance) below(n int) int { return int(x.next() % uint64(n)) }

// mix puts some reasons into another order.
func (x *chance) mix(whys []int) {
	for i := range whys {
		k := i + x.below(len(whys)-i)
		whys[i], whys[k] = whys[k], whys[i]
	}
}

// paper are counts by the document's words: a plain list of all reasons that came.
type paper []int

func (p paper) of(why int) int {
	n := 0
	for _, w := range p {
		if w == why {
			n++
		}
	}
	return n
}

func (p paper) refused() int {
	n := 0
	for _, w := range p {
		if w != 0 {
			n++
		}
	}
	return n
}

func (p paper) text() string {
	var parts []string
	for why, name := range allNames {
		if n := p.of(why); n > 0 {
			parts = append(parts, fmt.Sprintf("%s %d", name, n))
		}
	}
	return strings.Join(parts, ", ")
}

// same tells whether two lists have the same reasons, each as often.
func (p paper) same(other paper) bool {
	a, b := slices.Clone(p), slices.Clone(other)
	slices.Sort(a)
	slices.Sort(b)
	return slices.Equal(a, b)
}

// noReasons are numbers that are no reason's: next to those that are, further off, and those that end like one.
func noReasons() []int {
	return []int{
		-1, -2, -12, -13, -14, -99, -256, math.MinInt32, -1 << 32, -1<<32 + 3, math.MinInt + 1, math.MinInt,
		13, 14, 15, 16, 26, 99, 255, 256, 257, 268, 1 << 16, 1<<16 + 3, math.MaxInt32, 1 << 32, 1<<32 + 3, 1 << 62, math.MaxInt - 1, math.MaxInt,
	}
}

// of are counts to which some reasons were added.
func of(t *testing.T, whys ...int) *Counts {
	t.Helper()
	c := New()
	add(t, c, whys...)
	return c
}

// add adds reasons that there are.
func add(t *testing.T, c *Counts, whys ...int) {
	t.Helper()
	for _, why := range whys {
		if e := c.Add(why); e != api.OK {
			t.Fatalf("Add(%d): %v", why, e)
		}
	}
}

// times are n of one reason.
func times(why, n int) []int { return slices.Repeat([]int{why}, n) }

// tells holds all that counts tell against a list of what was added.
func tells(t *testing.T, c *Counts, p paper) {
	t.Helper()
	// Twice, and each behind the other: asking changes nothing.
	for range 2 {
		for why := range allNames {
			if n := c.Of(why); n != p.of(why) {
				t.Fatalf("Of(%d): %d, want %d", why, n, p.of(why))
			}
		}
		for _, why := range noReasons() {
			if n := c.Of(why); n != 0 {
				t.Fatalf("Of(%d): %d, want 0", why, n)
			}
		}
		if n := c.Refused(); n != p.refused() {
			t.Fatalf("Refused: %d, want %d", n, p.refused())
		}
		textIs(t, c, p.text())
		sameIs(t, c, c, true)
		sameIs(t, c, nil, len(p) == 0)
		sameIs(t, c, New(), len(p) == 0)
	}
}

func textIs(t *testing.T, c *Counts, want string) {
	t.Helper()
	if text := c.Text(); text != want {
		t.Fatalf("Text: %q, want %q", text, want)
	}
}

func refusedIs(t *testing.T, c *Counts, want int) {
	t.Helper()
	if n := c.Refused(); n != want {
		t.Fatalf("Refused: %d, want %d", n, want)
	}
}

func ofIs(t *testing.T, c *Counts, why, want int) {
	t.Helper()
	if n := c.Of(why); n != want {
		t.Fatalf("Of(%d): %d, want %d", why, n, want)
	}
}

// sameIs holds Same both ways round.
func sameIs(t *testing.T, a, b *Counts, want bool) {
	t.Helper()
	if got := Same(a, b); got != want {
		t.Fatalf("Same of %q and %q: %v, want %v", a.Text(), b.Text(), got, want)
	}
	if got := Same(b, a); got != want {
		t.Fatalf("Same of %q and %q: %v, want %v", b.Text(), a.Text(), got, want)
	}
}

// The document's reasons, their names, and the errors' numbers.
func TestWords(t *testing.T) {
	if api.Reasons != 13 || len(allNames) != 13 || api.Taken != 0 || api.Slow != 12 {
		t.Error(api.Reasons, api.Taken, api.Slow)
	}
	if names := sane.Names(); !slices.Equal(names, allNames) {
		t.Error(names)
	}
	if api.OK != 0 || api.ErrNil != 1 || api.ErrKind != 10 {
		t.Error(api.OK, api.ErrNil, api.ErrKind)
	}
}

// P16.1, P16.2: what new counts tell by every call.
func TestNew(t *testing.T) {
	c := New()
	if c == nil {
		t.Fatal("none")
	}
	tells(t, c, nil)
	textIs(t, c, "")
	refusedIs(t, c, 0)
	for why := range 13 {
		ofIs(t, c, why, 0)
	}
	sameIs(t, c, New(), true)
	sameIs(t, c, nil, true)
}

// P16.1: each reason is counted at its own number, and at no other's.
func TestAdd(t *testing.T) {
	for why := range 13 {
		c := New()
		for n := 1; n <= 12; n++ {
			if e := c.Add(why); e != api.OK {
				t.Fatalf("Add(%d): %v", why, e)
			}
			for other := range 13 {
				if other == why {
					ofIs(t, c, other, n)
				} else {
					ofIs(t, c, other, 0)
				}
			}
			tells(t, c, times(why, n))
		}
	}
}

// P16.1: each reason behind each other one.
func TestAddTwo(t *testing.T) {
	for first := range 13 {
		for second := range 13 {
			tells(t, of(t, first, second), paper{first, second})
			tells(t, of(t, first, second, first), paper{first, second, first})
		}
	}
}

// P16.1, rule 3: what is no reason is refused, and changes nothing.
func TestAddOfNoReason(t *testing.T) {
	for _, whys := range [][]int{nil, {api.Taken}, {api.Slow}, {api.Short, api.Slow, api.Taken, api.Slow}, {0, 1, 2, 3, 4, 5, 6, 7, 8, 9, 10, 11, 12}} {
		c, twin := of(t, whys...), of(t, whys...)
		for _, why := range noReasons() {
			for range 3 {
				if e := c.Add(why); e != api.ErrKind {
					t.Fatalf("Add(%d): %v", why, e)
				}
			}
			ofIs(t, c, why, 0)
			tells(t, c, whys)
			sameIs(t, c, twin, true)
		}
		// What comes behind is counted as if nothing had been refused.
		add(t, c, api.Kiss)
		tells(t, c, append(slices.Clone(whys), api.Kiss))
	}
}

// P16.1: what is no reason, among such as are.
func TestAddOfBoth(t *testing.T) {
	c := New()
	for i, why := range noReasons() {
		add(t, c, i%13)
		if e := c.Add(why); e != api.ErrKind {
			t.Fatalf("Add(%d): %v", why, e)
		}
	}
	var p paper
	for i := range noReasons() {
		p = append(p, i%13)
	}
	tells(t, c, p)
}

// P16.1: Of each reason, all of them different.
func TestOf(t *testing.T) {
	c := New()
	for why := range 13 {
		add(t, c, times(why, 3*why+1)...)
	}
	for why := range 13 {
		ofIs(t, c, why, 3*why+1)
	}
	for _, why := range noReasons() {
		ofIs(t, c, why, 0)
	}
}

// P16.1: of none, of Taken alone, of each other one alone, and of many.
func TestRefused(t *testing.T) {
	refusedIs(t, New(), 0)
	refusedIs(t, of(t, api.Taken), 0)
	refusedIs(t, of(t, times(api.Taken, 1000)...), 0)
	for why := 1; why < 13; why++ {
		refusedIs(t, of(t, why), 1)
		refusedIs(t, of(t, why, why), 2)
		refusedIs(t, of(t, api.Taken, why, api.Taken), 1)
		refusedIs(t, of(t, times(why, 321)...), 321)
	}
	refusedIs(t, of(t, 0, 1, 2, 3, 4, 5, 6, 7, 8, 9, 10, 11, 12), 12)
	refusedIs(t, of(t, 1, 2, 3, 4, 5, 6, 7, 8, 9, 10, 11, 12), 12)
	refusedIs(t, of(t, 12, 1, 0, 12, 0, 12), 4)
	c := New()
	sum := 0
	for why := range 13 {
		add(t, c, times(why, 10+why*why)...)
		if why > 0 {
			sum += 10 + why*why
		}
		refusedIs(t, c, sum)
	}
}

// P16.2: one reason alone, with numbers of one, two and more digits.
func TestTextOfOne(t *testing.T) {
	for why, name := range allNames {
		c := New()
		for n := 1; n <= 1001; n++ {
			add(t, c, why)
			switch n {
			case 1, 2, 9, 10, 11, 19, 20, 99, 100, 101, 110, 999, 1000, 1001:
				textIs(t, c, fmt.Sprintf("%s %d", name, n))
			}
		}
	}
}

// P16.2: written out.
func TestText(t *testing.T) {
	for _, c := range []struct {
		whys []int
		want string
	}{
		{nil, ""},
		{[]int{api.Taken}, "taken 1"},
		{[]int{api.Slow}, "slow 1"},
		{[]int{api.Slow, api.Taken}, "taken 1, slow 1"},
		{[]int{api.Short, api.Taken}, "taken 1, short 1"},
		{[]int{api.Zero, api.Slow}, "zero 1, slow 1"},
		{[]int{api.Zero, api.Kiss, api.Zero, api.Short}, "short 1, kiss 1, zero 2"},
		{[]int{api.Idle, api.Retired, api.Unknown}, "unknown 1, retired 1, idle 1"},
		{[]int{api.Stratum, api.Leap, api.Origin, api.Mode, api.Version}, "version 1, mode 1, origin 1, leap 1, stratum 1"},
		{
			[]int{12, 11, 10, 9, 8, 7, 6, 5, 4, 3, 2, 1, 0},
			"taken 1, short 1, unknown 1, retired 1, idle 1, version 1, mode 1, origin 1, kiss 1, leap 1, stratum 1, zero 1, slow 1",
		},
		{append(times(api.Taken, 10), times(api.Slow, 100)...), "taken 10, slow 100"},
		{append(times(api.Mode, 1000), times(api.Short, 9)...), "short 9, mode 1000"},
	} {
		textIs(t, of(t, c.whys...), c.want)
	}
}

// P16.2: all reasons, with numbers of one to four digits.
func TestTextOfAll(t *testing.T) {
	c := New()
	for why, n := range []int{9, 10, 11, 99, 100, 101, 1000, 1, 2, 20, 200, 999, 5} {
		add(t, c, times(why, n)...)
	}
	textIs(t, c, "taken 9, short 10, unknown 11, retired 99, idle 100, version 101, mode 1000, origin 1, kiss 2, leap 20, stratum 200, zero 999, slow 5")
}

// P16.2: any two of the thirteen, those between at 0, in whichever order they came.
func TestTextOfTwo(t *testing.T) {
	for low := range 13 {
		for high := low + 1; high < 13; high++ {
			want := allNames[low] + " 2, " + allNames[high] + " 1"
			textIs(t, of(t, low, low, high), want)
			textIs(t, of(t, low, high, low), want)
			textIs(t, of(t, high, low, low), want)
		}
	}
}

// P16.2: each set of reasons, one after the other from the front and from the back.
func TestTextOfEachSet(t *testing.T) {
	for set := range 1 << 13 {
		var whys paper
		var parts []string
		for why, name := range allNames {
			if set>>why&1 == 1 {
				whys = append(whys, why)
				parts = append(parts, name+" 1")
			}
		}
		want := strings.Join(parts, ", ")
		textIs(t, of(t, whys...), want)
		slices.Reverse(whys)
		textIs(t, of(t, whys...), want)
	}
}

// P16.2: the same counts, that came in different orders.
func TestSame(t *testing.T) {
	x := chance(88172645463325252)
	for _, whys := range [][]int{{0}, {12}, {0, 12}, {3, 3, 3}, {0, 0, 8}, {1, 2, 3, 1, 2, 1}, {0, 1, 2, 3, 4, 5, 6, 7, 8, 9, 10, 11, 12}, append(times(7, 100), times(0, 50)...)} {
		a := of(t, whys...)
		for range 30 {
			mixed := slices.Clone(whys)
			x.mix(mixed)
			sameIs(t, a, of(t, mixed...), true)
		}
		sameIs(t, a, a, true)
	}
}

// P16.2: counts that differ in one reason alone, by one and by more.
func TestSameButOne(t *testing.T) {
	for _, whys := range [][]int{nil, {0}, {12}, {5, 6}, {0, 1, 2, 3, 4, 5, 6, 7, 8, 9, 10, 11, 12}} {
		for why := range 13 {
			a, b := of(t, whys...), of(t, whys...)
			sameIs(t, a, b, true)
			for range 300 {
				add(t, b, why)
				sameIs(t, a, b, false)
			}
			add(t, a, times(why, 300)...)
			sameIs(t, a, b, true)
		}
	}
}

// P16.2: as many reasons in all, and not the same ones.
func TestSameOfAsMany(t *testing.T) {
	for first := range 13 {
		for second := range 13 {
			sameIs(t, of(t, first), of(t, second), first == second)
			sameIs(t, of(t, first, first, second), of(t, second, second, first), first == second)
			sameIs(t, of(t, first, second), of(t, second, first), true)
		}
	}
}

// P16.2: nil counts are as if all were 0.
func TestSameOfNil(t *testing.T) {
	if !Same(nil, nil) {
		t.Error("nil and nil")
	}
	sameIs(t, nil, New(), true)
	refused := New()
	refused.Add(-1)
	refused.Add(13)
	sameIs(t, nil, refused, true)
	for why := range 13 {
		sameIs(t, nil, of(t, why), false)
		sameIs(t, nil, of(t, times(why, 256)...), false)
	}
	sameIs(t, nil, of(t, 0, 1, 2, 3, 4, 5, 6, 7, 8, 9, 10, 11, 12), false)
}

// P16.2: Same and Text change nothing, of both that are asked.
func TestAskingChangesNothing(t *testing.T) {
	first, second := []int{0, 8, 0, 12}, []int{8, 0, 12, 12, 3}
	a, b := of(t, first...), of(t, second...)
	for range 5 {
		sameIs(t, a, b, false)
		sameIs(t, a, a, true)
		sameIs(t, b, nil, false)
		textIs(t, a, "taken 2, kiss 1, slow 1")
		textIs(t, b, "taken 1, retired 1, kiss 1, slow 2")
		tells(t, a, first)
		tells(t, b, second)
	}
	add(t, a, 3, 12)
	add(t, b, 0)
	sameIs(t, a, b, true)
}

// P2: two counts have nothing to do with one another.
func TestTwoCounts(t *testing.T) {
	a, b := New(), New()
	var left, right paper
	both := func() {
		t.Helper()
		tells(t, a, left)
		tells(t, b, right)
		sameIs(t, a, b, left.same(right))
	}
	both()
	x := chance(1181783497276652981)
	for range 300 {
		why := x.below(13)
		if x.below(2) == 0 {
			add(t, a, why)
			left = append(left, why)
		} else {
			add(t, b, why)
			right = append(right, why)
		}
		both()
	}
	a.Add(13)
	b.Add(-1)
	both()
	tells(t, New(), nil)
}

// The line in brackets, and rule 1: ErrNil goes ahead of ErrKind.
func TestNil(t *testing.T) {
	var c *Counts
	for range 2 {
		for why := range 13 {
			if e := c.Add(why); e != api.ErrNil {
				t.Errorf("Add(%d): %v", why, e)
			}
			ofIs(t, c, why, 0)
		}
		for _, why := range noReasons() {
			if e := c.Add(why); e != api.ErrNil {
				t.Errorf("Add(%d): %v", why, e)
			}
			ofIs(t, c, why, 0)
		}
		refusedIs(t, c, 0)
		textIs(t, c, "")
		sameIs(t, c, New(), true)
	}
}

// P16.1, P16.2: many reasons in many orders, held against a plain list that is gone through.
func TestAgainstAList(t *testing.T) {
	x := chance(6364136223846793005)
	for _, kinds := range []int{1, 2, 3, 5, 13} {
		for range 12 {
			from := x.below(14 - kinds)
			c := New()
			var p paper
			for range 120 {
				if x.below(5) == 0 {
					none := noReasons()[x.below(len(noReasons()))]
					if e := c.Add(none); e != api.ErrKind {
						t.Fatalf("Add(%d): %v", none, e)
					}
				} else {
					why := from + x.below(kinds)
					add(t, c, why)
					p = append(p, why)
				}
				tells(t, c, p)
			}
			mixed := slices.Clone(p)
			x.mix(mixed)
			sameIs(t, c, of(t, mixed...), true)
		}
	}
}

// P16.2: Same of many pairs, held against their lists.
func TestSameAgainstLists(t *testing.T) {
	x := chance(2685821657736338717)
	some := func() paper {
		var p paper
		for range x.below(6) {
			p = append(p, 4*x.below(4))
		}
		return p
	}
	were := map[bool]int{}
	for range 20000 {
		left, right := some(), some()
		want := left.same(right)
		were[want]++
		sameIs(t, of(t, left...), of(t, right...), want)
	}
	if were[true] < 500 || were[false] < 500 {
		t.Error("too few of a kind:", were)
	}
}

// P16.3: each reason that came is in just one number.
func TestAllAreCountedOnce(t *testing.T) {
	x := chance(88172645463325252)
	c := New()
	for n := range 20000 {
		sum := 0
		for why := range 13 {
			sum += c.Of(why)
		}
		if sum != n || c.Of(api.Taken)+c.Refused() != n {
			t.Fatalf("%d and %d, want %d: %s", sum, c.Of(api.Taken)+c.Refused(), n, c.Text())
		}
		add(t, c, x.below(13))
		c.Add(13 + x.below(1000))
		c.Add(-1 - x.below(1000))
	}
}

// The chapter's example.
func TestExample(t *testing.T) {
	want := "taken 2, kiss 1"
	textIs(t, of(t, api.Taken, api.Taken, api.Kiss), want)
	textIs(t, of(t, api.Taken, api.Kiss, api.Taken), want)
	textIs(t, of(t, api.Kiss, api.Taken, api.Taken), want)
}

// Rule 6: calls may be made by many goroutines at a time, each of counts of its own.
func TestManyGoroutines(t *testing.T) {
	var wait sync.WaitGroup
	for i := range 16 {
		wait.Go(func() {
			c := New()
			var p paper
			for n := range 300 {
				c.Add(n * i % 14)
				if n*i%14 < 13 {
					p = append(p, n*i%14)
				}
				c.Of(n % 13)
			}
			if c.Text() != p.text() || c.Refused() != p.refused() || !Same(c, c) || Same(c, nil) {
				t.Error(i, c.Text(), p.text())
			}
		})
	}
	wait.Wait()
}
