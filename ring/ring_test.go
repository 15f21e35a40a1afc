package ring

import (
	"math"
	"slices"
	"strconv"
	"sync"
	"testing"

	"chronobate/api"
)

// made is a new ring that may be.
func made[T any](t *testing.T, most int) *Ring[T] {
	t.Helper()
	r, e := New[T](most)
	if e != api.OK || r == nil {
		t.Fatalf("New(%d): %v, %v", most, r, e)
	}
	return r
}

// add are Adds that must be taken.
func add[T any](t *testing.T, r *Ring[T], things ...T) {
	t.Helper()
	for _, x := range things {
		if e := r.Add(x); e != api.OK {
			t.Fatalf("Add(%v): %v", x, e)
		}
	}
}

// tells holds all that a ring tells against what it should.
func tells[T comparable](t *testing.T, r *Ring[T], want []T, count int) {
	t.Helper()
	// Twice: asking changes nothing.
	for range 2 {
		if all := r.All(); !slices.Equal(all, want) {
			t.Fatalf("All: %v, want %v", all, want)
		}
		if n := r.Len(); n != len(want) {
			t.Fatalf("Len: %d, want %d", n, len(want))
		}
		if n := r.Count(); n != count {
			t.Fatalf("Count: %d, want %d", n, count)
		}
		var last T
		if len(want) > 0 {
			last = want[len(want)-1]
		}
		if x, ok := r.Last(); x != last || ok != (len(want) > 0) {
			t.Fatalf("Last: %v, %v, want %v of %v", x, ok, last, want)
		}
	}
}

// end are the last most things of a list.
func end[T any](things []T, most int) []T { return things[max(0, len(things)-most):] }

// sizes are how many a ring may keep: few, some, and as many as may be.
func sizes() []int { return []int{1, 2, 3, 5, 8, 13, 63, 64} }

// amounts are how many things make a ring of most empty, partly full, full, just gone round, and gone round often.
func amounts(most int) []int {
	return []int{0, 1, most / 2, most - 1, most, most + 1, 2*most - 1, 2 * most, 2*most + 1, 5*most + 3}
}

// filled is a ring to which n numbers were added, from first on.
func filled(t *testing.T, most, n, first int) (*Ring[int], []int) {
	t.Helper()
	r := made[int](t, most)
	var added []int
	for i := range n {
		add(t, r, first+i)
		added = append(added, first+i)
	}
	return r, end(added, most)
}

// P9.1: so many that may not be.
func TestNewRefuses(t *testing.T) {
	for _, most := range []int{math.MinInt, math.MinInt + 1, math.MinInt32, -64, -2, -1, 0, 65, 66, 128, 1 << 20, math.MaxInt32, math.MaxInt - 1, math.MaxInt} {
		if r, e := New[int](most); r != nil || e != api.ErrRange {
			t.Errorf("New(%d) of numbers: %v, %v", most, r, e)
		}
		if r, e := New[string](most); r != nil || e != api.ErrRange {
			t.Errorf("New(%d) of texts: %v, %v", most, r, e)
		}
		if r, e := New[struct{}](most); r != nil || e != api.ErrRange {
			t.Errorf("New(%d) of nothing: %v, %v", most, r, e)
		}
	}
}

// P9.1, P9.2: all that may be; each is without things.
func TestNew(t *testing.T) {
	for most := 1; most <= 64; most++ {
		tells(t, made[int](t, most), nil, 0)
		tells(t, made[string](t, most), nil, 0)
		tells(t, made[*int](t, most), nil, 0)
	}
}

// P9.1 to P9.3: what is kept is the end of what was added, behind each Add, and never more than so many.
func TestAdd(t *testing.T) {
	for most := 1; most <= 64; most++ {
		r := made[int](t, most)
		var added []int
		for i := range 6*most + 5 {
			// None of them is the zero one, and neighbours aren't in order.
			x := (i*37+11)%1009 + 1
			add(t, r, x)
			added = append(added, x)
			tells(t, r, end(added, most), len(added))
			if r.Len() > most || r.Len() != min(most, i+1) {
				t.Fatalf("a ring of %d keeps %d of %d", most, r.Len(), i+1)
			}
		}
	}
}

// P9.3: the same thing again is one thing more.
func TestAddTheSame(t *testing.T) {
	r := made[int](t, 3)
	add(t, r, 7)
	tells(t, r, []int{7}, 1)
	add(t, r, 7)
	tells(t, r, []int{7, 7}, 2)
	add(t, r, 7)
	tells(t, r, []int{7, 7, 7}, 3)
	add(t, r, 7)
	tells(t, r, []int{7, 7, 7}, 4)
	add(t, r, 8)
	tells(t, r, []int{7, 7, 8}, 5)
}

// P9.2: the zero thing is a thing, too.
func TestLastIsTheZeroThing(t *testing.T) {
	for _, most := range sizes() {
		r := made[int](t, most)
		add(t, r, 0)
		tells(t, r, []int{0}, 1)
		add(t, r, 5, 0)
		tells(t, r, end([]int{0, 5, 0}, most), 3)
		r.Clear()
		tells(t, r, nil, 3)
		add(t, r, 0)
		tells(t, r, []int{0}, 4)
	}
	texts := made[string](t, 2)
	add(t, texts, "")
	tells(t, texts, []string{""}, 1)
	pointers := made[*int](t, 2)
	add(t, pointers, nil)
	tells(t, pointers, []*int{nil}, 1)
	nothings := made[struct{}](t, 2)
	add(t, nothings, struct{}{}, struct{}{}, struct{}{})
	tells(t, nothings, []struct{}{{}, {}}, 3)
}

// P9.1, P9.2: behind Clear there are none, Count forgets none, and things may be added again.
func TestClear(t *testing.T) {
	for _, most := range sizes() {
		for _, n := range amounts(most) {
			for _, again := range amounts(most) {
				r, want := filled(t, most, n, 100)
				tells(t, r, want, n)
				r.Clear()
				tells(t, r, nil, n)
				r.Clear()
				tells(t, r, nil, n)
				var added []int
				for i := range again {
					add(t, r, 5000+i)
					added = append(added, 5000+i)
					tells(t, r, end(added, most), n+i+1)
				}
				r.Clear()
				tells(t, r, nil, n+again)
			}
		}
	}
}

// Adds and Clears in any order.
func TestAddAndClear(t *testing.T) {
	for _, most := range sizes() {
		r := made[int](t, most)
		var added []int
		count, x := 0, uint32(most)
		for range 4000 {
			x = x*1664525 + 1013904223
			// Seldom, so that great rings are gone round between two Clears.
			if x>>16%150 == 0 {
				r.Clear()
				added = nil
			} else {
				n := int(int32(x))
				add(t, r, n)
				added = append(added, n)
				count++
			}
			tells(t, r, end(added, most), count)
		}
	}
}

// nilTells holds all that a nil ring tells against the line in brackets.
func nilTells[T comparable](t *testing.T, x T) {
	t.Helper()
	var r *Ring[T]
	var zero T
	for range 2 {
		if e := r.Add(x); e != api.ErrNil {
			t.Errorf("Add(%v): %v", x, e)
		}
		if all := r.All(); len(all) != 0 {
			t.Errorf("All: %v", all)
		}
		if last, ok := r.Last(); last != zero || ok {
			t.Errorf("Last: %v, %v", last, ok)
		}
		if r.Len() != 0 || r.Count() != 0 {
			t.Errorf("Len %d, Count %d", r.Len(), r.Count())
		}
		r.Clear()
	}
}

// The line in brackets.
func TestNil(t *testing.T) {
	nilTells(t, 7)
	nilTells(t, 0)
	nilTells(t, "seven")
	nilTells(t, new(int))
	nilTells(t, api.Sample{Offset: 7})
	refused, _ := New[int](0)
	if e := refused.Add(1); e != api.ErrNil || refused.Len() != 0 {
		t.Error("a ring that was refused:", e)
	}
}

// Rule 4: who changes a list that was told changes nothing of the ring, nor of another list.
func TestToldListsAreApart(t *testing.T) {
	for _, most := range sizes() {
		for _, n := range amounts(most) {
			r, want := filled(t, most, n, 100)
			first, second := r.All(), r.All()
			for i := range first {
				first[i] = -1
			}
			tells(t, r, want, n)
			if !slices.Equal(second, want) {
				t.Fatalf("of %d, %d added: the other list is %v", most, n, second)
			}
			slices.Reverse(second)
			tells(t, r, want, n)
			for i, x := range first {
				if x != -1 {
					t.Fatalf("of %d, %d added: place %d was changed to %d", most, n, i, x)
				}
			}
		}
	}
}

// Rule 4: who appends to a list that was told changes nothing of the ring, nor of another list; and the ring nothing of what was appended.
func TestToldListsAreAppendedTo(t *testing.T) {
	for _, most := range sizes() {
		for _, n := range amounts(most) {
			r, want := filled(t, most, n, 100)
			first, second := r.All(), r.All()
			longer, other := append(first, -1, -2), append(second, -3, -4)
			shorter := append(r.All()[:len(want)/2], -5)
			tells(t, r, want, n)
			add(t, r, 7)
			if !slices.Equal(longer, append(slices.Clone(want), -1, -2)) || !slices.Equal(other, append(slices.Clone(want), -3, -4)) {
				t.Fatalf("of %d, %d added: %v and %v", most, n, longer, other)
			}
			if !slices.Equal(shorter, append(slices.Clone(want[:len(want)/2]), -5)) {
				t.Fatalf("of %d, %d added: %v", most, n, shorter)
			}
			tells(t, r, end(append(slices.Clone(want), 7), most), n+1)
		}
	}
}

// Rule 4: what lies behind a told list's length is nothing of the ring's.
func TestNothingBehindToldLists(t *testing.T) {
	for _, most := range sizes() {
		for _, n := range amounts(most) {
			r, _ := filled(t, most, n, 100)
			for range 2 {
				all := r.All()
				for _, x := range all[len(all):cap(all)] {
					if x != 0 {
						t.Fatalf("of %d, %d added: %d lies behind", most, n, x)
					}
				}
				r.Clear()
			}
		}
	}
}

// Rule 4: a later Add or Clear changes nothing of a list that was told before.
func TestToldListsStay(t *testing.T) {
	for _, most := range sizes() {
		r := made[int](t, most)
		var told, wants [][]int
		var added []int
		note := func() {
			told = append(told, r.All())
			wants = append(wants, slices.Clone(end(added, most)))
		}
		for i := range 3*most + 2 {
			note()
			add(t, r, i+1)
			added = append(added, i+1)
			if i == most/2 || i == 2*most {
				note()
				r.Clear()
				added = nil
			}
		}
		for i, all := range told {
			if !slices.Equal(all, wants[i]) {
				t.Fatalf("of %d: list %d is %v, was %v", most, i, all, wants[i])
			}
		}
	}
}

// P2: two rings have nothing to do with one another.
func TestTwoRings(t *testing.T) {
	for _, most := range sizes() {
		a, b := made[int](t, most), made[int](t, most)
		var ofA, ofB []int
		for i := range 2*most + 3 {
			add(t, a, i)
			ofA = append(ofA, i)
			tells(t, b, end(ofB, most), len(ofB))
			if i%2 == 0 {
				add(t, b, -i)
				ofB = append(ofB, -i)
			}
			tells(t, a, end(ofA, most), len(ofA))
			tells(t, b, end(ofB, most), len(ofB))
		}
		a.Clear()
		tells(t, b, end(ofB, most), len(ofB))
		// Handed what the other one told.
		for _, x := range b.All() {
			add(t, a, x)
		}
		b.Clear()
		tells(t, a, end(ofB, most), len(ofA)+min(most, len(ofB)))
		tells(t, b, nil, len(ofB))
	}
}

// P9.1 to P9.3 of texts.
func TestTexts(t *testing.T) {
	r := made[string](t, 3)
	var added []string
	for i := range 12 {
		x := "thing " + strconv.Itoa(i)
		if i%4 == 2 {
			x = "\x00\xff" + strconv.Itoa(i)
		}
		add(t, r, x)
		added = append(added, x)
		tells(t, r, end(added, 3), i+1)
	}
	r.Clear()
	tells(t, r, nil, 12)
}

// P9.1 to P9.3 of structs: samples, which layer 10 keeps. They are kept as they were when they were added.
func TestStructs(t *testing.T) {
	r := made[api.Sample](t, api.MaxKeep)
	var added []api.Sample
	var x api.Sample
	for i := range int64(3 * api.MaxKeep) {
		x.Offset, x.Delay, x.At, x.Slewed = -i, 7*i, i+1, i*i
		add(t, r, x)
		added = append(added, x)
		x = api.Sample{Offset: 99}
		tells(t, r, end(added, api.MaxKeep), len(added))
	}
}

// Arrays are things by their values, and pairs by theirs.
func TestArrays(t *testing.T) {
	type pair struct {
		name    string
		numbers [3]int
	}
	r := made[pair](t, 2)
	x := pair{"a", [3]int{1, 2, 3}}
	add(t, r, x)
	x.numbers[1] = 9
	add(t, r, x)
	x.name = "b"
	tells(t, r, []pair{{"a", [3]int{1, 2, 3}}, {"a", [3]int{1, 9, 3}}}, 2)
	r.All()[0].numbers[0] = 7
	tells(t, r, []pair{{"a", [3]int{1, 2, 3}}, {"a", [3]int{1, 9, 3}}}, 2)
	add(t, r, x)
	tells(t, r, []pair{{"a", [3]int{1, 9, 3}}, {"b", [3]int{1, 9, 3}}}, 3)
}

// Lists are things that are kept as they were added: of one length, with one beginning.
func TestLists(t *testing.T) {
	r := made[[]int](t, 2)
	if x, ok := r.Last(); x != nil || ok {
		t.Error(x, ok)
	}
	one, two, none := []int{1}, []int{2, 3}, []int{}
	add(t, r, one, none, two)
	all := r.All()
	if len(all) != 2 || len(all[0]) != 0 || !slices.Equal(all[1], two) || &all[1][0] != &two[0] {
		t.Error(all)
	}
	if x, ok := r.Last(); !ok || !slices.Equal(x, two) || &x[0] != &two[0] {
		t.Error(x, ok)
	}
	add(t, r, nil)
	if x, ok := r.Last(); x != nil || !ok || r.Len() != 2 || r.Count() != 4 {
		t.Error(x, ok, r.Len(), r.Count())
	}
	all[1] = []int{9}
	if told := r.All(); len(told) != 2 || !slices.Equal(told[0], two) || told[1] != nil {
		t.Error(told)
	}
	r.Clear()
	if x, ok := r.Last(); x != nil || ok || len(r.All()) != 0 || !slices.Equal(two, []int{2, 3}) {
		t.Error(x, ok, two)
	}
}

// Pointers are things that point where they pointed.
func TestPointers(t *testing.T) {
	things := make([]int, 7)
	r := made[*int](t, 3)
	var added []*int
	for i := range things {
		add(t, r, &things[i])
		added = append(added, &things[i])
		tells(t, r, end(added, 3), i+1)
	}
	things[6] = 5
	if x, _ := r.Last(); *x != 5 {
		t.Error(*x)
	}
}

// Functions, maps and things of many types, which can't be compared, are things too.
func TestOtherThings(t *testing.T) {
	calls := made[func() int](t, 2)
	for i := range 5 {
		add(t, calls, func() int { return i })
	}
	if all := calls.All(); len(all) != 2 || all[0]() != 3 || all[1]() != 4 {
		t.Error("functions")
	}
	maps := made[map[string]int](t, 1)
	m := map[string]int{"a": 1}
	add(t, maps, nil, m)
	m["b"] = 2
	if x, ok := maps.Last(); !ok || x["b"] != 2 || len(x) != 2 {
		t.Error(x, ok)
	}
	mixed := made[any](t, 3)
	add[any](t, mixed, 1, "x", nil, api.ErrArg)
	tells(t, mixed, []any{"x", nil, api.ErrArg}, 4)
	rings := made[*Ring[int]](t, 2)
	inner := made[int](t, 1)
	add(t, rings, nil, inner, nil)
	add(t, inner, 8)
	if all := rings.All(); len(all) != 2 || all[1] != nil || !slices.Equal(all[0].All(), []int{8}) {
		t.Error("rings")
	}
}

// What isn't kept any more isn't held either.
func TestNothingIsHeld(t *testing.T) {
	for _, most := range sizes() {
		r := made[*int](t, most)
		for i := range 3*most + 1 {
			add(t, r, &i)
			for _, x := range r.kept[len(r.kept):cap(r.kept)] {
				if x != nil {
					t.Fatalf("of %d, %d added: a thing more is held", most, i+1)
				}
			}
		}
		r.Clear()
		for _, x := range r.kept[:cap(r.kept)] {
			if x != nil {
				t.Fatalf("of %d: a thing is held behind Clear", most)
			}
		}
	}
}

// P9.3: memory doesn't grow with what is added.
func TestListDoesNotGrow(t *testing.T) {
	r := made[int](t, 64)
	for i := range 200000 {
		add(t, r, i)
	}
	if r.Len() != 64 || r.Count() != 200000 || cap(r.kept) > 128 {
		t.Error(r.Len(), r.Count(), cap(r.kept))
	}
	if x, ok := r.Last(); x != 199999 || !ok || r.All()[0] != 199999-63 {
		t.Error(x, ok, r.All())
	}
}

// The chapter's example.
func TestExample(t *testing.T) {
	r := made[int](t, 2)
	add(t, r, 1, 2, 3)
	tells(t, r, []int{2, 3}, 3)
}

// Rule 6: calls may be made by many goroutines at a time, each of a ring of its own.
func TestManyGoroutines(t *testing.T) {
	var wait sync.WaitGroup
	for i := range 16 {
		wait.Go(func() {
			most := i%5 + 1
			r, e := New[int](most)
			for n := range 500 {
				e = max(e, r.Add(i*1000+n))
			}
			if x, ok := r.Last(); e != api.OK || !ok || x != i*1000+499 || r.Len() != most || r.All()[0] != x-most+1 || r.Count() != 500 {
				t.Error(i, e, x, ok, r.All())
			}
		})
	}
	wait.Wait()
}
