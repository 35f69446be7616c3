package heap

import (
	"math"
	"math/bits"
	"math/rand"
	"slices"
	"strings"
	"testing"
)

func less(a, b int) bool { return a < b }

// Tickets that no heap of a few things has given.
var wrongTickets = []int{0, -1, -2, math.MinInt, math.MaxInt, 1 << 40, 1000000}

func wantOrder[T any](t *testing.T, h *Heap[T], want ...int) {
	t.Helper()
	if got := h.Order(); !slices.Equal(got, want) {
		t.Errorf("Order() = %v; want %v", got, want)
	}
}

func wantTop[T comparable](t *testing.T, h *Heap[T], ticket int, x T, ok bool) {
	t.Helper()
	if n, y, there := h.Top(); n != ticket || y != x || there != ok {
		t.Errorf("Top() = %v, %v, %v; want %v, %v, %v", n, y, there, ticket, x, ok)
	}
}

func wantPop[T comparable](t *testing.T, h *Heap[T], ticket int, x T, ok bool) {
	t.Helper()
	if n, y, there := h.Pop(); n != ticket || y != x || there != ok {
		t.Errorf("Pop() = %v, %v, %v; want %v, %v, %v", n, y, there, ticket, x, ok)
	}
}

func wantGet[T comparable](t *testing.T, h *Heap[T], ticket int, x T, ok bool) {
	t.Helper()
	if y, there := h.Get(ticket); y != x || there != ok {
		t.Errorf("Get(%d) = %v, %v; want %v, %v", ticket, y, there, x, ok)
	}
}

func wantRemove[T comparable](t *testing.T, h *Heap[T], ticket int, x T, ok bool) {
	t.Helper()
	if y, there := h.Remove(ticket); y != x || there != ok {
		t.Errorf("Remove(%d) = %v, %v; want %v, %v", ticket, y, there, x, ok)
	}
}

func wantChange[T any](t *testing.T, h *Heap[T], ticket int, x T, want bool) {
	t.Helper()
	if got := h.Change(ticket, x); got != want {
		t.Errorf("Change(%d, %v) = %v; want %v", ticket, x, got, want)
	}
}

func wantPush[T any](t *testing.T, h *Heap[T], x T, want int) {
	t.Helper()
	if got := h.Push(x); got != want {
		t.Errorf("Push(%v) = %d; want %d", x, got, want)
	}
}

func wantLen[T any](t *testing.T, h *Heap[T], want int) {
	t.Helper()
	if got := h.Len(); got != want {
		t.Errorf("Len() = %d; want %d", got, want)
	}
}

// heapOf has these things, with the tickets 1, 2 and so on.
func heapOf(things ...int) *Heap[int] {
	h := New(less)
	for _, x := range things {
		h.Push(x)
	}
	return h
}

// P3.1 to P3.6: the chapter's examples, line by line.
func TestExamples(t *testing.T) {
	h := New(less)
	wantTop(t, h, 0, 0, false)
	wantLen(t, h, 0)
	wantOrder(t, h)
	for i, x := range []int{5, 3, 5, 1} {
		wantPush(t, h, x, i+1)
	}
	wantTop(t, h, 4, 1, true)
	wantOrder(t, h, 4, 2, 1, 3)
	wantRemove(t, h, 2, 3, true)
	wantRemove(t, h, 2, 0, false)
	wantGet(t, h, 2, 0, false)
	wantGet(t, h, 1, 5, true)
	wantChange(t, h, 1, 9, true)
	wantChange(t, h, 2, 9, false)
	wantOrder(t, h, 4, 3, 1)
	wantPop(t, h, 4, 1, true)
	wantPop(t, h, 3, 5, true)
	wantPush(t, h, 9, 5)
	wantOrder(t, h, 1, 5)
	wantChange(t, h, 5, 0, true)
	wantPop(t, h, 5, 0, true)
	wantPop(t, h, 1, 9, true)
	wantPop(t, h, 0, 0, false)
	if New[int](nil) != nil {
		t.Error("New(nil) is not nil")
	}
}

// P3.1: nil for a nil function, of whatever type; else a heap without things.
func TestNew(t *testing.T) {
	if New[string](nil) != nil || New[[]byte](nil) != nil || New[any](nil) != nil || New[func()](nil) != nil {
		t.Error("New(nil) is not nil")
	}
	h := New(func(a, b string) bool { return a < b })
	if h == nil {
		t.Fatal("New of a function is nil")
	}
	wantLen(t, h, 0)
	wantTop(t, h, 0, "", false)
	wantPop(t, h, 0, "", false)
	wantOrder(t, h)
	for _, ticket := range append(wrongTickets, 1, 2) {
		wantGet(t, h, ticket, "", false)
		wantRemove(t, h, ticket, "", false)
		wantChange(t, h, ticket, "x", false)
	}
	wantLen(t, h, 0)
}

// P3.1: heaps that were made by one function have nothing in common.
func TestNewTwice(t *testing.T) {
	a, b := New(less), New(less)
	wantPush(t, a, 7, 1)
	wantLen(t, b, 0)
	wantPush(t, b, 8, 1)
	wantGet(t, a, 1, 7, true)
}

// P3.2: tickets count up from 1, whatever goes between; Len counts what is there.
func TestPushTickets(t *testing.T) {
	h := New(less)
	wantPush(t, h, 3, 1)
	h.Pop()
	wantPush(t, h, 3, 2)
	h.Remove(2)
	wantPush(t, h, 3, 3)
	wantLen(t, h, 1)
	h.Change(3, 4)
	wantPush(t, h, 1, 4)
	wantLen(t, h, 2)
	h.Pop()
	h.Pop()
	h.Pop()
	h.Remove(1)
	wantLen(t, h, 0)
	wantPush(t, h, 0, 5)
	wantLen(t, h, 1)
}

// P3.3: of things that are alike the one with the lowest ticket is first, also where they came to be alike by a change.
func TestTopOfAlike(t *testing.T) {
	h := heapOf(4, 4, 4)
	wantTop(t, h, 1, 4, true)
	wantPop(t, h, 1, 4, true)
	wantTop(t, h, 2, 4, true)
	wantChange(t, h, 2, 5, true)
	wantTop(t, h, 3, 4, true)
	wantChange(t, h, 3, 5, true)
	wantTop(t, h, 2, 5, true)
	wantOrder(t, h, 2, 3)
}

// P3.3: Top takes nothing out, and the zero thing is a thing as any other.
func TestTopStays(t *testing.T) {
	h := heapOf(0, 2)
	for range 3 {
		wantTop(t, h, 1, 0, true)
	}
	wantLen(t, h, 2)
	wantPop(t, h, 1, 0, true)
	wantLen(t, h, 1)
	wantGet(t, h, 1, 0, false)
	wantTop(t, h, 2, 2, true)
}

// P3.4: what is answered for tickets that have no thing: never given, not given yet, gone.
func TestGetAndRemoveWrong(t *testing.T) {
	h := heapOf(5, 6, 7)
	h.Pop()
	for _, ticket := range append(wrongTickets, 1, 4) {
		wantGet(t, h, ticket, 0, false)
		wantRemove(t, h, ticket, 0, false)
	}
	wantLen(t, h, 2)
	wantOrder(t, h, 2, 3)
}

// P3.4: Get changes nothing, Remove takes out at every place; what is left stands in order.
func TestRemoveEverywhere(t *testing.T) {
	things := []int{1, 10, 2, 11, 12, 3, 4, 13, 14, 15, 16, 5, 6, 7, 8}
	for ticket := 1; ticket <= len(things); ticket++ {
		h := heapOf(things...)
		want := slices.DeleteFunc(h.Order(), func(n int) bool { return n == ticket })
		wantGet(t, h, ticket, things[ticket-1], true)
		wantGet(t, h, ticket, things[ticket-1], true)
		wantRemove(t, h, ticket, things[ticket-1], true)
		wantGet(t, h, ticket, 0, false)
		wantRemove(t, h, ticket, 0, false)
		wantLen(t, h, len(things)-1)
		wantOrder(t, h, want...)
		for _, n := range want {
			wantPop(t, h, n, things[n-1], true)
		}
	}
}

// P3.5: the thing is another one, under the same ticket, wherever it now ranks.
func TestChangeEverywhere(t *testing.T) {
	things := []int{1, 10, 2, 11, 12, 3, 4, 13, 14, 15, 16, 5, 6, 7, 8}
	for ticket := 1; ticket <= len(things); ticket++ {
		for x := range 18 {
			h := heapOf(things...)
			wantChange(t, h, ticket, x, true)
			wantGet(t, h, ticket, x, true)
			wantLen(t, h, len(things))
			changed := slices.Clone(things)
			changed[ticket-1] = x
			want := heapOf(changed...).Order()
			wantOrder(t, h, want...)
			for _, n := range want {
				wantPop(t, h, n, changed[n-1], true)
			}
		}
	}
}

// P3.5: without such a thing nothing changes.
func TestChangeWrong(t *testing.T) {
	h := heapOf(5, 6, 7)
	h.Remove(2)
	for _, ticket := range append(wrongTickets, 2, 4) {
		wantChange(t, h, ticket, 1, false)
		wantGet(t, h, ticket, 0, false)
	}
	wantLen(t, h, 2)
	wantOrder(t, h, 1, 3)
	wantPush(t, h, 1, 4)
}

// P3.6: Order changes nothing, and is new memory each time (R4).
func TestOrderIsNew(t *testing.T) {
	h := heapOf(5, 3, 5, 1)
	a := h.Order()
	b := h.Order()
	for _, list := range [][]int{a[:cap(a)], b[:cap(b)]} {
		for i := range list {
			list[i] = -1
		}
		wantOrder(t, h, 4, 2, 1, 3)
	}
	wantLen(t, h, 4)
	for _, n := range []int{4, 2, 1, 3} {
		if got, _, _ := h.Pop(); got != n {
			t.Errorf("Pop() = %d; want %d", got, n)
		}
	}
	if a := h.Order(); len(a) != 0 {
		t.Errorf("Order() of an empty heap = %v", a)
	}
}

// P3.6: the function alone says what is first: here the greater one, and texts by their length.
func TestOrderByOtherFunctions(t *testing.T) {
	down := New(func(a, b int) bool { return a > b })
	for _, x := range []int{5, 3, 5, 9, math.MinInt, math.MaxInt} {
		down.Push(x)
	}
	wantOrder(t, down, 6, 4, 1, 3, 2, 5)
	length := New(func(a, b string) bool { return len(a) < len(b) })
	for _, x := range strings.Fields("ccc a bb aaa b") {
		length.Push(x)
	}
	wantOrder(t, length, 2, 5, 3, 1, 4)
	alike := New(func(a, b any) bool { return false })
	for _, x := range []any{1, "a", nil, 2.5, []int{1}} {
		alike.Push(x)
	}
	alike.Change(2, math.NaN())
	wantOrder(t, alike, 1, 2, 3, 4, 5)
}

// P3.7, R7: a clone has the same things and tickets, and neither sees what is done to the other.
func TestClone(t *testing.T) {
	h := heapOf(5, 3, 5, 1)
	h.Remove(2)
	c := h.Clone()
	wantLen(t, c, 3)
	wantOrder(t, c, 4, 1, 3)
	wantPush(t, h, 0, 5)
	wantGet(t, c, 5, 0, false)
	wantPush(t, c, 2, 5)
	wantPush(t, c, 2, 6)
	wantGet(t, h, 5, 0, true)
	wantGet(t, h, 6, 0, false)
	wantPush(t, h, 8, 6)
	wantChange(t, c, 1, 0, true)
	wantGet(t, h, 1, 5, true)
	wantChange(t, h, 3, 7, true)
	wantGet(t, c, 3, 5, true)
	wantPop(t, c, 1, 0, true)
	wantRemove(t, c, 4, 1, true)
	wantOrder(t, h, 5, 4, 1, 3, 6)
	wantOrder(t, c, 5, 6, 3)
	for range 5 {
		h.Pop()
	}
	wantLen(t, h, 0)
	wantOrder(t, c, 5, 6, 3)
	wantTop(t, c, 5, 2, true)
}

// P3.7: clones of an empty heap, of a new one, and of a clone, count on by themselves.
func TestCloneOfEmpty(t *testing.T) {
	h := New(less)
	fresh := h.Clone()
	wantPush(t, fresh, 4, 1)
	wantLen(t, h, 0)
	h.Push(1)
	h.Push(2)
	h.Pop()
	h.Pop()
	c := h.Clone().Clone()
	wantLen(t, c, 0)
	wantOrder(t, c)
	wantPush(t, c, 9, 3)
	wantPush(t, h, 8, 3)
	wantGet(t, c, 3, 9, true)
	wantGet(t, h, 3, 8, true)
}

// P3.8: what a thing points to is the caller's and is shared; a thing that holds all it has is a copy.
func TestThingsAsGoCopiesThem(t *testing.T) {
	h := New(func(a, b *int) bool { return *a < *b })
	x, y := 1, 2
	h.Push(&x)
	h.Push(&y)
	c := h.Clone()
	wantTop(t, h, 1, &x, true)
	wantTop(t, c, 1, &x, true)
	wantGet(t, c, 2, &y, true)
	x = 0
	if p, _ := c.Get(1); *p != 0 {
		t.Error("a clone does not share what a thing points to")
	}

	lists := New(func(a, b []int) bool { return len(a) < len(b) })
	list := []int{1, 2, 3}
	lists.Push(list)
	copied := lists.Clone()
	list[0] = 9
	for _, h := range []*Heap[[]int]{lists, copied} {
		if l, _ := h.Get(1); l[0] != 9 || &l[0] != &list[0] {
			t.Error("a list is not kept as Go copies it")
		}
	}

	arrays := New(func(a, b [2]int) bool { return a[0] < b[0] })
	pair := [2]int{1, 2}
	arrays.Push(pair)
	pair[0] = 9
	wantGet(t, arrays, 1, [2]int{1, 2}, true)
}

// What was taken out is not held any longer.
func TestNothingGoneIsHeld(t *testing.T) {
	h := New(func(a, b *int) bool { return *a < *b })
	for i := range 9 {
		h.Push(&i)
	}
	h.Pop()
	h.Remove(9)
	h.Remove(4)
	for i, r := range h.rows[h.Len():cap(h.rows)] {
		if r.thing != nil {
			t.Errorf("spare row %d holds a thing", i)
		}
	}
	if len(h.places) != h.Len() {
		t.Errorf("%d places for %d things", len(h.places), h.Len())
	}
}

// asked counts how often a heap's function is asked.
type asked struct {
	heap  *Heap[int]
	times int
}

func newAsked(before func(a, b int) bool) *asked {
	a := &asked{}
	a.heap = New(func(x, y int) bool { a.times++; return before(x, y) })
	return a
}

// within does a call and holds its questions against P3.9.
func (a *asked) within(t *testing.T, what string, call func()) {
	t.Helper()
	size := a.heap.Len()
	a.times = 0
	call()
	if most := 8 * max(1, bits.Len(uint(size))); a.times > most {
		t.Fatalf("%s with %d things asked %d times; at most %d", what, size, a.times, most)
	}
}

// P3.9: at every size, with things that rise, sink, come anyhow or are alike; changes from one end to the other.
func TestAskedSeldom(t *testing.T) {
	random := rand.New(rand.NewSource(3))
	kinds := []func(i int) int{
		func(i int) int { return i },
		func(i int) int { return -i },
		func(i int) int { return 0 },
		func(i int) int { return random.Intn(1000) },
	}
	for _, next := range kinds {
		a := newAsked(less)
		for i := range 2100 {
			a.within(t, "Push", func() { a.heap.Push(next(i)) })
			if i%7 != 0 && bits.OnesCount(uint(i+1)) > 1 {
				continue
			}
			order := a.heap.Order()
			ends := []int{order[0], order[len(order)-1], order[len(order)/2]}
			for _, ticket := range ends {
				old, _ := a.heap.Get(ticket)
				for _, x := range []int{math.MaxInt, math.MinInt, old} {
					a.within(t, "Change", func() { a.heap.Change(ticket, x) })
				}
			}
		}
		for a.heap.Len() > 0 {
			order := a.heap.Order()
			ticket := order[random.Intn(len(order))]
			a.within(t, "Remove", func() { a.heap.Remove(ticket) })
			a.within(t, "Pop", func() { a.heap.Pop() })
		}
		a.within(t, "Pop", func() { a.heap.Pop() })
		a.within(t, "Remove", func() { a.heap.Remove(1) })
		a.within(t, "Change", func() { a.heap.Change(1, 1) })
	}
}

// plain is a heap by the chapter's words alone: all things in a list, by their tickets.
type plain struct {
	before  func(a, b int) bool
	tickets []int
	things  []int
	last    int
}

func (p *plain) ranksAhead(i, j int) bool {
	a, b := p.things[i], p.things[j]
	return p.before(a, b) || !p.before(a, b) && !p.before(b, a) && p.tickets[i] < p.tickets[j]
}

func (p *plain) push(x int) int {
	p.last++
	p.tickets = append(p.tickets, p.last)
	p.things = append(p.things, x)
	return p.last
}

// order tells the tickets: behind how many others one ranks is its place.
func (p *plain) order() []int {
	list := make([]int, len(p.tickets))
	for i := range p.tickets {
		place := 0
		for j := range p.tickets {
			if j != i && p.ranksAhead(j, i) {
				place++
			}
		}
		list[place] = p.tickets[i]
	}
	return list
}

func (p *plain) get(ticket int) (int, bool) {
	i := slices.Index(p.tickets, ticket)
	if i < 0 {
		return 0, false
	}
	return p.things[i], true
}

func (p *plain) change(ticket, x int) bool {
	i := slices.Index(p.tickets, ticket)
	if i >= 0 {
		p.things[i] = x
	}
	return i >= 0
}

func (p *plain) remove(ticket int) (int, bool) {
	x, ok := p.get(ticket)
	if i := slices.Index(p.tickets, ticket); i >= 0 {
		p.tickets = slices.Delete(p.tickets, i, i+1)
		p.things = slices.Delete(p.things, i, i+1)
	}
	return x, ok
}

func (p *plain) top() (int, int, bool) {
	if len(p.tickets) == 0 {
		return 0, 0, false
	}
	first := p.order()[0]
	x, _ := p.get(first)
	return first, x, true
}

func (p *plain) clone() *plain {
	return &plain{p.before, slices.Clone(p.tickets), slices.Clone(p.things), p.last}
}

// same holds a heap against the plain one in all that it tells.
func same(t *testing.T, h *Heap[int], p *plain) {
	t.Helper()
	wantLen(t, h, len(p.tickets))
	wantOrder(t, h, p.order()...)
	n, x, ok := p.top()
	wantTop(t, h, n, x, ok)
	for ticket := -1; ticket <= p.last+1; ticket++ {
		x, ok := p.get(ticket)
		wantGet(t, h, ticket, x, ok)
	}
}

// move does one call, which a random source chooses, to both.
func move(t *testing.T, random *rand.Rand, h *Heap[int], p *plain) {
	t.Helper()
	ticket, x := random.Intn(p.last+3)-1, random.Intn(12)
	switch random.Intn(6) {
	case 0, 1:
		wantPush(t, h, x, p.push(x))
	case 2:
		n, y, ok := p.top()
		p.remove(n)
		wantPop(t, h, n, y, ok)
	case 3:
		y, ok := p.remove(ticket)
		wantRemove(t, h, ticket, y, ok)
	default:
		wantChange(t, h, ticket, x, p.change(ticket, x))
	}
}

// P3.2 to P3.7 and P3.10: random calls, on a heap and its clones, with several functions.
func TestAgainstPlain(t *testing.T) {
	functions := []func(a, b int) bool{
		less,
		func(a, b int) bool { return a > b },
		func(a, b int) bool { return a/4 < b/4 },
		func(a, b int) bool { return a%3 > b%3 },
		func(a, b int) bool { return false },
	}
	for seed := range 60 {
		random := rand.New(rand.NewSource(int64(seed)))
		before := functions[seed%len(functions)]
		heaps, plains := []*Heap[int]{New(before)}, []*plain{{before: before}}
		for range 80 {
			i := random.Intn(len(heaps))
			if random.Intn(20) == 0 && len(heaps) < 4 {
				heaps = append(heaps, heaps[i].Clone())
				plains = append(plains, plains[i].clone())
			}
			move(t, random, heaps[i], plains[i])
			for j := range heaps {
				same(t, heaps[j], plains[j])
			}
			if t.Failed() {
				t.Fatalf("seed %d", seed)
			}
		}
	}
}

// P3.10: Pop, again and again, tells what Order told, in that order.
func TestPopTellsWhatOrderTold(t *testing.T) {
	random := rand.New(rand.NewSource(10))
	for size := range 200 {
		h := New(less)
		for range size {
			h.Push(random.Intn(size))
		}
		for i, n := range h.Order() {
			x, _ := h.Get(n)
			wantPop(t, h, n, x, true)
			wantLen(t, h, size-i-1)
		}
		wantPop(t, h, 0, 0, false)
	}
}

// P3.10, R1: with a function that is no order every call still ends; each thing is told once, or is there still.
func TestFunctionsThatAreNoOrder(t *testing.T) {
	random := rand.New(rand.NewSource(11))
	functions := []func(a, b int) bool{
		func(a, b int) bool { return true },
		func(a, b int) bool { return a <= b },
		func(a, b int) bool { return a != b },
		func(a, b int) bool { return (a-b+12)%3 == 1 },
		func(a, b int) bool { return random.Intn(2) == 0 },
	}
	for _, before := range functions {
		h := New(before)
		told := map[int]int{}
		for i := range 500 {
			wantPush(t, h, i%12, i+1)
			h.Change(random.Intn(i+1)+1, random.Intn(12))
			if i%3 == 0 {
				n, _, _ := h.Pop()
				told[n]++
			}
			if n := random.Intn(i+1) + 1; i%5 == 0 {
				if _, ok := h.Remove(n); ok {
					told[n]++
				}
			}
		}
		for _, n := range h.Order() {
			if _, ok := h.Get(n); !ok {
				t.Errorf("Order tells %d, which is not there", n)
			}
		}
		for h.Len() > 0 {
			n, _, _ := h.Pop()
			told[n]++
		}
		for n := 1; n <= 500; n++ {
			if told[n] != 1 {
				t.Fatalf("ticket %d was told %d times", n, told[n])
			}
		}
	}
}
