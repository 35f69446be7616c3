package queue

import (
	"iter"
	"math"
	"math/rand"
	"runtime"
	"slices"
	"testing"
	"time"
)

// Tickets that no queue of a few things has given.
var wrongTickets = []int{0, -1, -2, math.MinInt, math.MaxInt, 1 << 40, 1000000}

type pair[T any] struct {
	ticket int
	thing  T
}

func told[T any](seq iter.Seq2[int, T]) []pair[T] {
	var pairs []pair[T]
	for ticket, x := range seq {
		pairs = append(pairs, pair[T]{ticket, x})
	}
	return pairs
}

func wantAll[T comparable](t *testing.T, q *Queue[T], want ...pair[T]) {
	t.Helper()
	if got := told(q.All()); !slices.Equal(got, want) {
		t.Errorf("All() = %v; want %v", got, want)
	}
	wantLen(t, q, len(want))
}

func wantLen[T any](t *testing.T, q *Queue[T], want int) {
	t.Helper()
	if got := q.Len(); got != want {
		t.Errorf("Len() = %d; want %d", got, want)
	}
}

func wantFirst[T comparable](t *testing.T, q *Queue[T], ticket int, x T, ok bool) {
	t.Helper()
	if n, y, there := q.First(); n != ticket || y != x || there != ok {
		t.Errorf("First() = %v, %v, %v; want %v, %v, %v", n, y, there, ticket, x, ok)
	}
}

func wantGet[T comparable](t *testing.T, q *Queue[T], ticket int, x T, ok bool) {
	t.Helper()
	if y, there := q.Get(ticket); y != x || there != ok {
		t.Errorf("Get(%d) = %v, %v; want %v, %v", ticket, y, there, x, ok)
	}
}

func wantLeave[T comparable](t *testing.T, q *Queue[T], ticket int, x T, ok bool) {
	t.Helper()
	if y, there := q.Leave(ticket); y != x || there != ok {
		t.Errorf("Leave(%d) = %v, %v; want %v, %v", ticket, y, there, x, ok)
	}
}

func wantJoin[T any](t *testing.T, q *Queue[T], x T, want int) {
	t.Helper()
	if got := q.Join(x); got != want {
		t.Errorf("Join(%v) = %d; want %d", x, got, want)
	}
}

// queueOf has the things with the tickets 1, 2 ..
func queueOf[T any](things ...T) *Queue[T] {
	q := New[T]()
	for _, x := range things {
		q.Join(x)
	}
	return q
}

// The chapter's examples, line by line.
func TestExamples(t *testing.T) {
	q := New[string]()
	wantFirst(t, q, 0, "", false)
	wantLen(t, q, 0)
	wantLeave(t, q, 1, "", false)

	wantJoin(t, q, "a", 1)
	wantJoin(t, q, "b", 2)
	wantJoin(t, q, "c", 3)
	wantLen(t, q, 3)

	wantLeave(t, q, 2, "b", true)
	wantLeave(t, q, 2, "", false)
	wantGet(t, q, 2, "", false)
	wantGet(t, q, 3, "c", true)

	wantFirst(t, q, 1, "a", true)
	wantAll(t, q, pair[string]{1, "a"}, pair[string]{3, "c"})

	wantLeave(t, q, 1, "a", true)
	wantFirst(t, q, 3, "c", true)
	wantJoin(t, q, "d", 4)
	wantAll(t, q, pair[string]{3, "c"}, pair[string]{4, "d"})

	c := q.Clone()
	wantJoin(t, q, "e", 5)
	wantJoin(t, c, "f", 5)
	wantAll(t, c, pair[string]{3, "c"}, pair[string]{4, "d"}, pair[string]{5, "f"})
	wantAll(t, q, pair[string]{3, "c"}, pair[string]{4, "d"}, pair[string]{5, "e"})
}

// P4.1
func TestNew(t *testing.T) {
	q := New[int]()
	if q == nil {
		t.Fatal("New() = nil")
	}
	wantAll(t, q)
	wantFirst(t, q, 0, 0, false)
	for _, ticket := range append([]int{1, 2}, wrongTickets...) {
		wantGet(t, q, ticket, 0, false)
		wantLeave(t, q, ticket, 0, false)
	}
	wantLen(t, q, 0)
	wantJoin(t, q, 7, 1)
}

// P4.1: two queues have nothing to do with each other.
func TestNewTwice(t *testing.T) {
	p, q := New[int](), New[int]()
	wantJoin(t, p, 5, 1)
	wantJoin(t, p, 6, 2)
	wantAll(t, q)
	wantJoin(t, q, 8, 1)
	wantAll(t, p, pair[int]{1, 5}, pair[int]{2, 6})
	wantAll(t, q, pair[int]{1, 8})
}

// P4.2: whoever has left, from whichever end, and also where all have.
func TestJoinTickets(t *testing.T) {
	q := New[int]()
	wantJoin(t, q, 10, 1)
	wantJoin(t, q, 20, 2)
	wantLeave(t, q, 2, 20, true)
	wantJoin(t, q, 30, 3)
	wantLeave(t, q, 1, 10, true)
	wantLeave(t, q, 3, 30, true)
	wantAll(t, q)
	wantFirst(t, q, 0, 0, false)
	wantJoin(t, q, 40, 4)
	wantJoin(t, q, 40, 5)
	wantFirst(t, q, 4, 40, true)
	wantAll(t, q, pair[int]{4, 40}, pair[int]{5, 40})
	for ticket := 1; ticket <= 3; ticket++ {
		wantGet(t, q, ticket, 0, false)
	}
}

// P4.2: who only asks, or leaves without being there, uses no ticket up.
func TestAskingUsesNoTicket(t *testing.T) {
	q := queueOf(1, 2)
	q.First()
	q.Get(1)
	q.Get(9)
	q.Leave(9)
	told(q.All())
	q.Clone().Join(4)
	wantJoin(t, q, 3, 3)
}

// P4.3: First and Get tell, and take nothing out.
func TestTellingTakesNothing(t *testing.T) {
	q := queueOf(7, 8)
	for range 3 {
		wantFirst(t, q, 1, 7, true)
		wantGet(t, q, 1, 7, true)
		wantGet(t, q, 2, 8, true)
	}
	wantAll(t, q, pair[int]{1, 7}, pair[int]{2, 8})
}

// P4.3: a thing that is the zero value is there all the same.
func TestZeroThings(t *testing.T) {
	q := queueOf(0, 0)
	wantFirst(t, q, 1, 0, true)
	wantGet(t, q, 2, 0, true)
	wantLeave(t, q, 1, 0, true)
	wantFirst(t, q, 2, 0, true)
	wantAll(t, q, pair[int]{2, 0})

	p := queueOf[any](nil)
	wantFirst[any](t, p, 1, nil, true)
	wantLeave[any](t, p, 1, nil, true)
	wantLeave[any](t, p, 1, nil, false)
}

// P4.3, P4.4: wrong tickets.
func TestGetAndLeaveWrong(t *testing.T) {
	q := queueOf(5, 6, 7)
	for _, ticket := range append([]int{4, 5}, wrongTickets...) {
		wantGet(t, q, ticket, 0, false)
		wantLeave(t, q, ticket, 0, false)
	}
	wantAll(t, q, pair[int]{1, 5}, pair[int]{2, 6}, pair[int]{3, 7})
}

// P4.4: from every place of queues of all small sizes; a newcomer then stands behind all.
func TestLeaveEverywhere(t *testing.T) {
	for size := 1; size <= 6; size++ {
		for gone := 1; gone <= size; gone++ {
			q := New[int]()
			var want []pair[int]
			for ticket := 1; ticket <= size; ticket++ {
				q.Join(10 * ticket)
				if ticket != gone {
					want = append(want, pair[int]{ticket, 10 * ticket})
				}
			}
			wantLeave(t, q, gone, 10*gone, true)
			wantLeave(t, q, gone, 0, false)
			wantAll(t, q, want...)
			wantJoin(t, q, 99, size+1)
			wantAll(t, q, append(want, pair[int]{size + 1, 99})...)
		}
	}
}

// P4.4: in every order in which five may leave.
func TestLeaveInEveryOrder(t *testing.T) {
	var leave func(q *Queue[int], there []pair[int])
	leave = func(q *Queue[int], there []pair[int]) {
		wantAll(t, q, there...)
		for i, p := range there {
			c := q.Clone()
			wantLeave(t, c, p.ticket, p.thing, true)
			leave(c, slices.Delete(slices.Clone(there), i, i+1))
		}
	}
	q := queueOf(5, 4, 3, 2, 1)
	leave(q, []pair[int]{{1, 5}, {2, 4}, {3, 3}, {4, 2}, {5, 1}})
}

// P4.5, R6: an iterator that was asked for tells what there is when a range over it begins.
func TestAllTellsWhatThereIsThen(t *testing.T) {
	q := New[string]()
	seq := q.All()
	if seq == nil {
		t.Fatal("All() = nil")
	}
	if got := told(seq); len(got) != 0 {
		t.Errorf("of an empty queue: %v", got)
	}
	q.Join("a")
	q.Join("b")
	if got := told(seq); !slices.Equal(got, []pair[string]{{1, "a"}, {2, "b"}}) {
		t.Errorf("behind two joins: %v", got)
	}
	q.Leave(1)
	if got := told(seq); !slices.Equal(got, []pair[string]{{2, "b"}}) {
		t.Errorf("behind one leaving: %v", got)
	}
	q.Leave(2)
	if got := told(seq); len(got) != 0 {
		t.Errorf("behind all leaving: %v", got)
	}
}

// P4.5, R6: whatever is changed while it runs, it tells what there was.
func TestAllWhileThingsChange(t *testing.T) {
	changes := map[string]func(q *Queue[int], ticket int){
		"the told one leaves":     func(q *Queue[int], ticket int) { q.Leave(ticket) },
		"the next one leaves":     func(q *Queue[int], ticket int) { q.Leave(ticket + 1) },
		"the one before leaves":   func(q *Queue[int], ticket int) { q.Leave(ticket - 1) },
		"the last one leaves":     func(q *Queue[int], ticket int) { q.Leave(6 - ticket) },
		"one joins":               func(q *Queue[int], ticket int) { q.Join(99) },
		"all leave":               func(q *Queue[int], ticket int) { empty(q) },
		"all leave and one joins": func(q *Queue[int], ticket int) { empty(q); q.Join(99) },
	}
	want := []pair[int]{{1, 10}, {2, 20}, {3, 30}, {4, 40}, {5, 50}}
	for name, change := range changes {
		q := queueOf(10, 20, 30, 40, 50)
		var got []pair[int]
		for ticket, x := range q.All() {
			if len(got) > 100 {
				break
			}
			got = append(got, pair[int]{ticket, x})
			change(q, ticket)
		}
		if !slices.Equal(got, want) {
			t.Errorf("%s: %v; want %v", name, got, want)
		}
	}
}

func empty(q *Queue[int]) {
	for {
		ticket, _, ok := q.First()
		if !ok {
			return
		}
		q.Leave(ticket)
	}
}

// P4.5, R6: left early at each place, and gone through again.
func TestAllLeftEarly(t *testing.T) {
	q := queueOf(10, 20, 30)
	seq := q.All()
	for stop := 1; stop <= 3; stop++ {
		n := 0
		for ticket, x := range seq {
			n++
			if ticket != n || x != 10*n {
				t.Errorf("number %d is %d, %d", n, ticket, x)
			}
			if n == stop {
				break
			}
		}
		if n != stop {
			t.Errorf("left at %d: told %d", stop, n)
		}
	}
	n := 0
	seq(func(int, int) bool { n++; return false })
	if n != 1 {
		t.Errorf("called %d times, though told to stop", n)
	}
	wantAll(t, q, pair[int]{1, 10}, pair[int]{2, 20}, pair[int]{3, 30})
}

// P4.5, R6: gone through within itself, the inner ranges telling what there is when they begin.
func TestAllWithinItself(t *testing.T) {
	q := queueOf(1, 2, 3)
	seq := q.All()
	var outer []int
	for ticket := range seq {
		outer = append(outer, ticket)
		var inner []int
		for other := range seq {
			inner = append(inner, other)
		}
		var want []int
		for other := ticket; other < ticket+3; other++ {
			want = append(want, other)
		}
		if !slices.Equal(inner, want) {
			t.Errorf("within %d: %v; want %v", ticket, inner, want)
		}
		q.Leave(ticket)
		q.Join(0)
	}
	if !slices.Equal(outer, []int{1, 2, 3}) {
		t.Errorf("outer %v", outer)
	}
}

// P4.5, R6: two that are pulled side by side go their own ways.
func TestAllPulled(t *testing.T) {
	q := queueOf("a", "b")
	one, stopOne := iter.Pull2(q.All())
	defer stopOne()
	two, stopTwo := iter.Pull2(q.All())
	defer stopTwo()
	one()
	q.Leave(1)
	two()
	q.Leave(2)
	if ticket, x, ok := one(); ticket != 2 || x != "b" || !ok {
		t.Errorf("one: %d, %s, %v; want 2, b, true", ticket, x, ok)
	}
	if ticket, x, ok := two(); ok {
		t.Errorf("two: %d, %s, %v; want the end", ticket, x, ok)
	}
}

// P4.6, R7
func TestClone(t *testing.T) {
	q := queueOf(10, 20, 30, 40)
	q.Leave(2)
	c := q.Clone()
	wantAll(t, c, pair[int]{1, 10}, pair[int]{3, 30}, pair[int]{4, 40})
	wantFirst(t, c, 1, 10, true)
	wantGet(t, c, 2, 0, false)
	wantGet(t, c, 3, 30, true)

	wantLeave(t, q, 1, 10, true)
	wantLeave(t, q, 4, 40, true)
	wantJoin(t, q, 50, 5)
	wantAll(t, c, pair[int]{1, 10}, pair[int]{3, 30}, pair[int]{4, 40})
	wantGet(t, c, 5, 0, false)

	wantLeave(t, c, 3, 30, true)
	wantJoin(t, c, 60, 5)
	wantJoin(t, c, 70, 6)
	wantAll(t, c, pair[int]{1, 10}, pair[int]{4, 40}, pair[int]{5, 60}, pair[int]{6, 70})
	wantAll(t, q, pair[int]{3, 30}, pair[int]{5, 50})
	wantGet(t, q, 6, 0, false)
}

// P4.6: from where this queue stands, though those with the last tickets, or all, have left.
func TestCloneTickets(t *testing.T) {
	q := queueOf(1, 2, 3)
	q.Leave(3)
	wantJoin(t, q.Clone(), 4, 4)
	q.Leave(1)
	q.Leave(2)
	c := q.Clone()
	wantAll(t, c)
	wantFirst(t, c, 0, 0, false)
	wantJoin(t, c, 4, 4)
	wantAll(t, q)
	wantJoin(t, q, 5, 4)
	wantAll(t, c, pair[int]{4, 4})

	fresh := New[int]().Clone()
	wantAll(t, fresh)
	wantJoin(t, fresh, 9, 1)
}

// P4.6: the clone's clone, and an iterator of the one while the other changes.
func TestCloneOfClone(t *testing.T) {
	q := queueOf(1, 2)
	c := q.Clone()
	d := c.Clone()
	seq := c.All()
	empty(q)
	empty(d)
	if got := told(seq); !slices.Equal(got, []pair[int]{{1, 1}, {2, 2}}) {
		t.Errorf("All() of the clone = %v", got)
	}
	for ticket := range c.All() {
		c.Clone().Leave(ticket)
	}
	wantAll(t, c, pair[int]{1, 1}, pair[int]{2, 2})
}

// P4.6: what a thing points to is shared, what Go copies is not.
func TestThingsAsGoCopiesThem(t *testing.T) {
	type thing struct {
		cells [2]int
		list  []int
	}
	x := thing{[2]int{1, 2}, []int{3, 4}}
	q := New[thing]()
	q.Join(x)
	x.cells[0] = 9
	x.list[0] = 8
	c := q.Clone()
	for _, queue := range []*Queue[thing]{q, c} {
		_, y, _ := queue.First()
		if y.cells[0] != 1 {
			t.Errorf("a copied array shows %d", y.cells[0])
		}
		if &y.list[0] != &x.list[0] {
			t.Error("what the thing points to is not the caller's")
		}
		y.cells[1] = 7
		if z, _ := queue.Get(1); z.cells[1] != 2 {
			t.Errorf("an answer's array is shared: %d", z.cells[1])
		}
	}
}

// P4.6: things that can't be held against each other, or are unlike themselves, are kept too.
func TestThingsOfAnyKind(t *testing.T) {
	calls := 0
	q := queueOf(func() { calls++ })
	f, ok := q.Leave(1)
	if !ok {
		t.Fatal("Leave(1) tells false")
	}
	f()
	if calls != 1 {
		t.Errorf("the function was called %d times", calls)
	}
	p := queueOf(math.NaN())
	if x, ok := p.Get(1); !math.IsNaN(x) || !ok {
		t.Errorf("Get(1) = %v, %v; want NaN, true", x, ok)
	}
	if x, ok := p.Leave(1); !math.IsNaN(x) || !ok || p.Len() != 0 {
		t.Errorf("Leave(1) = %v, %v, then Len %d; want NaN, true, 0", x, ok, p.Len())
	}
}

// P4.4: who has left is held no more, neither while others stay nor behind the last one's leaving.
func TestNothingGoneIsHeld(t *testing.T) {
	type big struct{ cells [1000]int }
	freed := make(chan int, 5)
	q := New[*big]()
	for i := range 5 {
		x := &big{}
		runtime.SetFinalizer(x, func(*big) { freed <- i })
		q.Join(x)
	}
	leave := func(tickets ...int) {
		for _, ticket := range tickets {
			q.Leave(ticket)
		}
		if !arrive(freed, len(tickets)) {
			t.Fatalf("behind the leaving of %v: not all were let go", tickets)
		}
	}
	leave(2, 1, 5)
	wantLen(t, q, 2)
	leave(4, 3)
	wantJoin(t, q, nil, 6)
}

// arrive collects garbage till n of it were told, and tells whether they were.
func arrive(freed chan int, n int) bool {
	limit := time.After(20 * time.Second)
	for n > 0 {
		runtime.GC()
		select {
		case <-freed:
			n--
		case <-limit:
			return false
		case <-time.After(time.Millisecond):
		}
	}
	return true
}

// plain is a queue as a plain list.
type plain struct {
	pairs []pair[int]
	given int
}

func (p *plain) join(x int) int {
	p.given++
	p.pairs = append(p.pairs, pair[int]{p.given, x})
	return p.given
}

func (p *plain) find(ticket int) int {
	return slices.IndexFunc(p.pairs, func(one pair[int]) bool { return one.ticket == ticket })
}

func (p *plain) get(ticket int) (int, bool) {
	if i := p.find(ticket); i >= 0 {
		return p.pairs[i].thing, true
	}
	return 0, false
}

func (p *plain) leave(ticket int) (int, bool) {
	x, ok := p.get(ticket)
	if ok {
		i := p.find(ticket)
		p.pairs = slices.Delete(p.pairs, i, i+1)
	}
	return x, ok
}

func (p *plain) clone() *plain { return &plain{slices.Clone(p.pairs), p.given} }

func same(t *testing.T, q *Queue[int], p *plain) {
	t.Helper()
	wantAll(t, q, p.pairs...)
	if len(p.pairs) == 0 {
		wantFirst(t, q, 0, 0, false)
	} else {
		wantFirst(t, q, p.pairs[0].ticket, p.pairs[0].thing, true)
	}
	for ticket := -1; ticket <= p.given+1; ticket++ {
		x, ok := p.get(ticket)
		wantGet(t, q, ticket, x, ok)
	}
}

func move(t *testing.T, random *rand.Rand, joins int, q *Queue[int], p *plain) {
	t.Helper()
	if random.Intn(10) < joins {
		x := random.Intn(5)
		wantJoin(t, q, x, p.join(x))
		return
	}
	ticket := random.Intn(p.given + 2)
	if len(p.pairs) > 0 && random.Intn(4) > 0 {
		ticket = p.pairs[random.Intn(len(p.pairs))].ticket
	}
	x, ok := p.leave(ticket)
	wantLeave(t, q, ticket, x, ok)
}

// P4.1 to P4.7: random plays of a queue and its clones against plain lists.
func TestAgainstPlain(t *testing.T) {
	for seed := range int64(60) {
		random := rand.New(rand.NewSource(seed))
		queues, plains := []*Queue[int]{New[int]()}, []*plain{{}}
		for range 150 {
			i := random.Intn(len(queues))
			if len(queues) < 4 && random.Intn(30) == 0 {
				queues = append(queues, queues[i].Clone())
				plains = append(plains, plains[i].clone())
			}
			move(t, random, 2+int(seed%5), queues[i], plains[i])
			for k := range queues {
				same(t, queues[k], plains[k])
			}
			if t.Failed() {
				t.Fatalf("seed %d", seed)
			}
		}
	}
}

// P4.7: tickets rise from the first to the last, and none is given twice.
func TestTicketsRise(t *testing.T) {
	random := rand.New(rand.NewSource(7))
	q := New[int]()
	given := map[int]bool{}
	for range 2000 {
		if random.Intn(5) < 3 {
			ticket := q.Join(0)
			if given[ticket] {
				t.Fatalf("ticket %d was given twice", ticket)
			}
			given[ticket] = true
		} else {
			q.Leave(1 + random.Intn(len(given)+1))
		}
		before := 0
		for ticket := range q.All() {
			if ticket <= before || !given[ticket] {
				t.Fatalf("ticket %d behind %d", ticket, before)
			}
			before = ticket
		}
	}
}

// Ways: nobody is looked for, so a long queue may empty from its end, its middle and its front.
func TestLongQueue(t *testing.T) {
	const size = 200000
	q := New[int]()
	for i := range size {
		q.Join(i)
	}
	for i := range size {
		ticket := (i*7919)%size + 1
		if x, ok := q.Leave(ticket); x != ticket-1 || !ok {
			t.Fatalf("Leave(%d) = %d, %v", ticket, x, ok)
		}
		if n, _, ok := q.First(); ok != (i < size-1) || q.Len() != size-1-i {
			t.Fatalf("behind %d leavings: First %d, %v, Len %d", i+1, n, ok, q.Len())
		}
	}
	wantJoin(t, q, 1, size+1)
}
