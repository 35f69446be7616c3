package seats

import (
	"fmt"
	"math/rand"
	"reflect"
	"runtime"
	"slices"
	"strings"
	"sync"
	"testing"

	"stint/api"
)

var (
	playTubes = []string{"a", "b", "ab", "default", "default", "c", "-a", "a b", ""}
	playUntil = []int{-3, -2, -1, -1, 0, 1, 7}
)

// plainTells is what seats have to tell, of the same things and in the same order as tellsOf.
func plainTells(p *plain) tells {
	told := tells{nums: p.nums(), waiters: append([]int(nil), p.line...), tubes: append([]string(nil), p.tubes()...)}
	for _, n := range told.nums {
		told.seats = append(told.seats, own(p.list[p.place(n)]))
	}
	for _, tube := range append(told.tubes, moreTubes...) {
		using, watching, waiting := p.sums(tube)
		told.of = append(told.of, fmt.Sprintf("%s: %d use it, %d watch it, %d wait for it, %d is first", cut(tube), using, watching, waiting, p.first(tube)))
	}
	return told
}

// step does one thing to seats and to plain ones, which must answer alike.
func step(t *testing.T, r *rand.Rand, s *Seats, p *plain, most int) {
	t.Helper()
	n := r.Intn(most+2) - 1
	if r.Intn(50) == 0 {
		n = wrongNums[r.Intn(len(wrongNums))]
	}
	tube := playTubes[r.Intn(len(playTubes))]
	until := playUntil[r.Intn(len(playUntil))]
	puts, takes := r.Intn(4) == 0, r.Intn(4) == 0
	switch r.Intn(16) {
	case 0, 1, 2:
		wantErr(t, s.Open(n), p.open(n))
	case 3:
		wantErr(t, s.Close(n), p.close(n))
	case 4, 5:
		wantErr(t, s.Use(n, tube), p.use(n, tube))
	case 6, 7, 8:
		want := p.watch(n, tube)
		wantCount(t, watch(s, n, tube), want.count, want.err)
	case 9, 10:
		want := p.ignore(n, tube)
		wantCount(t, ignore(s, n, tube), want.count, want.err)
	case 11, 12, 13:
		wantErr(t, s.Wait(n, until), p.wait(n, until))
	case 14:
		wantErr(t, s.Stop(n), p.stop(n))
	case 15:
		wantErr(t, s.Mark(n, puts, takes), p.mark(n, puts, takes))
	}
}

// P16.1 to P16.8, P16.10: random plays against plain seats.
func TestAgainstPlain(t *testing.T) {
	for seed := range 60 {
		r := rand.New(rand.NewSource(int64(seed)))
		s, p := New(), &plain{}
		most := 1 + r.Intn(12)
		if seed%10 == 0 {
			most = 64
		}
		for range 400 {
			step(t, r, s, p, most)
			if r.Intn(4) == 0 {
				wantTells(t, s, plainTells(p))
			}
		}
		wantTells(t, s, plainTells(p))
		wantFollows(t, s)
		if t.Failed() {
			t.Fatalf("with the seed %d", seed)
		}
	}
}

// P16.10: at each moment of a play.
func TestAlwaysFollows(t *testing.T) {
	r := rand.New(rand.NewSource(1))
	s, p := New(), &plain{}
	for range 400 {
		step(t, r, s, p, 8)
		wantFollows(t, s)
	}
}

// P16.9: what is done to one of the two is never seen at the other, in whatever way one goes on.
func TestCloneApart(t *testing.T) {
	var calls []func(s *Seats) counted
	for _, n := range []int{0, 1, 3, 5, 7, 9, 63} {
		calls = append(calls, openOf(n), closeOf(n), waitOf(n, 5), stopOf(n), markOf(n, true, true))
		for _, tube := range []string{"a", "b", "c", "d", "default", "new"} {
			calls = append(calls, useOf(n, tube), watchOf(n, tube), ignoreOf(n, tube))
		}
	}
	for _, call := range calls {
		s := some(t)
		c := s.Clone()
		call(c)
		wantTells(t, s, tellsOf(some(t)))
		other := some(t)
		call(other)
		wantTells(t, c, tellsOf(other))

		s = some(t)
		c = s.Clone()
		call(s)
		wantTells(t, c, tellsOf(some(t)))
		wantTells(t, s, tellsOf(other))
	}
}

// P16.9: those that wait in a clone stop, go, and wait again as in the other one.
func TestCloneLine(t *testing.T) {
	s := with(t, openOf(1), openOf(2), openOf(3), openOf(4), waitOf(4, 1), waitOf(2, 1), waitOf(1, 1), stopOf(4))
	c := s.Clone()
	do(t, c, waitOf(4, 1), stopOf(2), waitOf(3, 1), closeOf(1))
	wantNums(t, c.Waiters(), 4, 3)
	wantNums(t, s.Waiters(), 2, 1)
	do(t, s, stopOf(2), waitOf(3, 1), stopOf(1), waitOf(2, 1))
	wantNums(t, s.Waiters(), 3, 2)
	wantNums(t, c.Waiters(), 4, 3)
	d := s.Clone()
	do(t, d, stopOf(3), waitOf(1, 8))
	wantNums(t, d.Waiters(), 2, 1)
	wantNums(t, s.Waiters(), 3, 2)
}

// P16.9: clones of clones go their own ways, each like plain ones.
func TestClones(t *testing.T) {
	for seed := range 30 {
		r := rand.New(rand.NewSource(int64(seed)))
		all, plains := []*Seats{New()}, []*plain{{}}
		for range 500 {
			i := r.Intn(len(all))
			step(t, r, all[i], plains[i], 6)
			if r.Intn(30) == 0 && len(all) < 6 {
				all, plains = append(all, all[i].Clone()), append(plains, plains[i].clone())
			}
		}
		for i, s := range all {
			wantTells(t, s, plainTells(plains[i]))
			wantFollows(t, s)
		}
		if t.Failed() {
			t.Fatalf("with the seed %d", seed)
		}
	}
}

// P16.9: a clone of seats without connections.
func TestCloneOfNone(t *testing.T) {
	s := New()
	c := s.Clone()
	if c == nil || c == s {
		t.Fatal("the clone is no other one")
	}
	do(t, c, openOf(1), waitOf(1, 4))
	wantTells(t, s, tellsOf(New()))
	wantTells(t, c, tellsOf(with(t, openOf(1), waitOf(1, 4))))
}

// scribble writes over a list and its spare room.
func scribble[T any](list []T, x T) {
	list = list[:cap(list)]
	for i := range list {
		list[i] = x
	}
}

// R4: whatever a caller writes into an answer, no other one shows it, earlier or later, nor a clone's.
func TestAnswers(t *testing.T) {
	s := some(t)
	c := s.Clone()
	before := tellsOf(s)
	for _, one := range []*Seats{s, c} {
		early, _ := one.Get(3)
		nums, waiters, tubes := one.Nums(), one.Waiters(), one.Tubes()
		for _, n := range one.Nums() {
			x, _ := one.Get(n)
			scribble(x.Watched, "z")
		}
		scribble(one.Nums(), 99)
		scribble(one.Waiters(), 99)
		scribble(one.Tubes(), "z")
		if !slices.Equal(early.Watched, []string{"a", "b"}) {
			t.Errorf("an earlier answer shows it: %q", early.Watched)
		}
		wantNums(t, nums, before.nums...)
		wantNums(t, waiters, before.waiters...)
		if !slices.Equal(tubes, before.tubes) {
			t.Errorf("an earlier answer shows it: %q", tubes)
		}
		wantTells(t, s, before)
		wantTells(t, c, before)
	}
}

// R4: an answer stays as it was told, whatever is done later.
func TestAnswersStay(t *testing.T) {
	s := some(t)
	before := tellsOf(s)
	x, _ := s.Get(3)
	nums, waiters, tubes := s.Nums(), s.Waiters(), s.Tubes()
	do(t, s, ignoreOf(3, "a"), watchOf(3, "0"), watchOf(3, "z"), useOf(3, "z"), stopOf(63), waitOf(63, 2), waitOf(0, 2), closeOf(7), openOf(1), closeOf(9))
	if want := (api.Seat{Num: 3, Used: "c", Watched: []string{"a", "b"}, Waits: true, Until: 8, Puts: true}); !reflect.DeepEqual(x, want) {
		t.Errorf("the answer became %s; it was %s", show(x), show(want))
	}
	wantNums(t, nums, before.nums...)
	wantNums(t, waiters, before.waiters...)
	if !slices.Equal(tubes, before.tubes) {
		t.Errorf("the answer became %q; it was %q", tubes, before.tubes)
	}
}

func heapInUse() int {
	runtime.GC()
	var m runtime.MemStats
	runtime.ReadMemStats(&m)
	return int(m.HeapAlloc)
}

// R4: long texts of which tubes were pieces are not kept.
func TestNothingIsKept(t *testing.T) {
	s := New()
	before := heapInUse()
	for n := range 64 {
		do(t, s, openOf(n))
		for i, call := range []func(n int, tube string) func(s *Seats) counted{useOf, watchOf, watchOf, ignoreOf} {
			text := strings.Repeat("long", 1<<18) // a text for each call
			do(t, s, call(n, text[:10+n%2*i]))
		}
	}
	if grown := heapInUse() - before; grown > 4<<20 {
		t.Errorf("%d bytes are kept", grown)
	}
	runtime.KeepAlive(s)
}

// What is gone is not kept: no connection, no tube, nobody who waits.
func TestLongLife(t *testing.T) {
	s := New()
	before := heapInUse()
	for i := range 50000 {
		n := i % 64
		tube := fmt.Sprint("tube", i)
		do(t, s, openOf(n), useOf(n, tube), watchOf(n, tube), waitOf(n, i))
		if i%3 == 0 {
			do(t, s, stopOf(n), waitOf(n, -1), ignoreOf(n, tube))
		}
		do(t, s, closeOf(n))
	}
	wantTells(t, s, tellsOf(New()))
	if len(s.seats) != 0 || s.line.Len() != 0 {
		t.Errorf("%d are there and %d wait still", len(s.seats), s.line.Len())
	}
	if grown := heapInUse() - before; grown > 4<<20 {
		t.Errorf("%d bytes are kept", grown)
	}
	runtime.KeepAlive(s)
}

// R1: many tubes of one connection, while it waits and while others do.
func TestManyTubes(t *testing.T) {
	const most = 50000
	s := with(t, openOf(1), openOf(2), waitOf(2, 5), waitOf(1, 5))
	for i := range most {
		wantCount(t, watch(s, 1, fmt.Sprint(i*7919%most)), i+2, api.OK)
	}
	for i := range most {
		tube := fmt.Sprint(i)
		wantNums(t, []int{s.First(tube), s.Waiting(tube), s.Watching(tube), s.Using(tube)}, 1, 1, 1, 0)
	}
	x, _ := s.Get(1)
	wantInt(t, len(x.Watched), most+1)
	if tubes := s.Tubes(); !slices.IsSorted(tubes) || !slices.Equal(tubes, x.Watched) {
		t.Errorf("Tubes() has %d tubes; want %d, rising", len(tubes), most+1)
	}
	for i := range most {
		wantCount(t, ignore(s, 1, fmt.Sprint(i)), most-i, api.OK)
	}
	wantErr(t, ignore(s, 1, "default").err, api.ErrSeatLast)
	wantTells(t, s, tellsOf(with(t, openOf(1), openOf(2), waitOf(2, 5), waitOf(1, 5))))
}

// R1: all connections, each of which waits and stops many times.
func TestManyWaits(t *testing.T) {
	s := New()
	for n := range 64 {
		do(t, s, openOf(n), waitOf(n, n))
	}
	for i := range 100000 {
		n := s.First("default")
		wantInt(t, n, i%64)
		do(t, s, stopOf(n), waitOf(n, i))
	}
	wantInt(t, len(s.Waiters()), 64)
	wantInt(t, s.Waiting("default"), 64)
}

// R1: any numbers and texts, one behind the other.
func TestAnything(t *testing.T) {
	r := rand.New(rand.NewSource(3))
	numbers := append(slices.Clone(wrongNums), 0, 1, 2, 3, 62, 63)
	number := func() int { return numbers[r.Intn(len(numbers))] }
	s, p := New(), &plain{}
	for range 30000 {
		n, tube := number(), playTubes[r.Intn(len(playTubes))]
		switch until := number(); r.Intn(8) {
		case 0:
			wantErr(t, s.Open(n), p.open(n))
		case 1:
			wantErr(t, s.Close(n), p.close(n))
		case 2:
			wantErr(t, s.Use(n, tube), p.use(n, tube))
		case 3:
			want := p.watch(n, tube)
			wantCount(t, watch(s, n, tube), want.count, want.err)
		case 4:
			want := p.ignore(n, tube)
			wantCount(t, ignore(s, n, tube), want.count, want.err)
		case 5:
			wantErr(t, s.Wait(n, until), p.wait(n, until))
		case 6:
			wantErr(t, s.Stop(n), p.stop(n))
		case 7:
			wantErr(t, s.Mark(n, true, false), p.mark(n, true, false))
		}
		wantInt(t, s.First(tube), p.first(tube))
	}
	wantTells(t, s, plainTells(p))
}

// R5: seats side by side tell the same of the same calls, whatever order a map is gone through.
func TestSideBySide(t *testing.T) {
	told := make([]tells, 8)
	var group sync.WaitGroup
	for i := range told {
		group.Go(func() {
			s := New()
			for n := range 64 {
				s.Open(n)
				s.Use(n, fmt.Sprint("u", n%7))
				s.Watch(n, fmt.Sprint("w", n%11))
				s.Watch(n, fmt.Sprint("u", n%5))
				if n%3 == 0 {
					s.Ignore(n, "default")
				}
				if n%2 == 0 {
					s.Wait(n, n)
				}
				if n%5 == 0 {
					s.Close(n - 2)
				}
			}
			told[i] = tellsOf(s.Clone())
		})
	}
	group.Wait()
	for i := range told {
		if !reflect.DeepEqual(told[i], told[0]) {
			t.Errorf("the seats %d tell %s; the first ones %s", i, show(told[i]), show(told[0]))
		}
	}
}
