package yard

import (
	"fmt"
	"math"
	"math/rand"
	"reflect"
	"runtime"
	"slices"
	"strings"
	"sync"
	"testing"

	"stint/api"
)

var playTubes = []string{"a", "b", "ab", "\xff\x00"}

// plainTells is what a yard has to tell, of the same things and in the same order as tellsOf.
func plainTells(p *plain) tells {
	s := tells{jobs: ownBodies(p.jobs), tubes: append([]string(nil), p.tubes()...), all: p.sums(func(j api.Job) bool { return true })}
	first := func(ids []int) int {
		if len(ids) == 0 {
			return 0
		}
		return ids[0]
	}
	for _, tube := range append(moreTubes, s.tubes...) {
		sums := p.sums(func(j api.Job) bool { return j.Tube == tube })
		s.of = append(s.of, fmt.Sprintf("%q: %d %d %d %+v", tube, first(p.ofTube(tube, api.Ready, priOf)), first(p.ofTube(tube, api.Delayed, dueOf)), first(p.ofTube(tube, api.Buried, orderOf)), sums))
	}
	for conn := range api.MaxSeats {
		s.of = append(s.of, fmt.Sprintf("%d holds %v", conn, p.held(conn)))
	}
	for _, conn := range moreConns {
		s.of = append(s.of, fmt.Sprintf("%d holds %v", conn, p.held(conn)))
	}
	for _, now := range clocksOf(s.jobs) {
		s.of = append(s.of, fmt.Sprintf("over at %d: %v %v", now, p.over(api.Delayed, now), p.over(api.Reserved, now)))
	}
	return s
}

// randomJob is a job of any state, with numbers that are often those of others.
func randomJob(r *rand.Rand, id int) api.Job {
	j := api.Job{Id: id, Pri: 1022 + r.Intn(4), Delay: r.Intn(3), TTR: 1, State: 1 + r.Intn(4), Holder: -1, Tube: playTubes[r.Intn(len(playTubes))], Body: []byte("x")}
	j.Counts.Kicks = r.Intn(3)
	switch j.State {
	case api.Delayed:
		j.Due = 1 + r.Intn(6)
	case api.Reserved:
		j.Due, j.Holder = 1+r.Intn(6), r.Intn(3)
	case api.Buried:
		j.Order = 1 + r.Intn(6)
	}
	if r.Intn(20) == 0 {
		j.Pri = farNumbers[r.Intn(len(farNumbers))]
	}
	if r.Intn(20) == 0 {
		list := spoilt(j)
		return list[r.Intn(len(list))]
	}
	if r.Intn(40) == 0 {
		j.State = wrongStates[r.Intn(len(wrongStates))]
	}
	return j
}

// step does one thing to a yard and to a plain one, which must answer alike.
func step(t *testing.T, r *rand.Rand, y *Yard, p *plain, most int) {
	t.Helper()
	id := r.Intn(most + 1)
	j := randomJob(r, id)
	switch n := r.Intn(10); {
	case n < 3:
		wantErr(t, y.Add(j), p.add(j))
	case n < 8:
		if at, there := p.place(id); there && r.Intn(20) > 0 {
			j.Tube = p.jobs[at].Tube
		}
		wantErr(t, y.Set(j), p.set(j))
	case n < 9:
		wantErr(t, y.Delete(id), p.delete(id))
	default:
		now := r.Intn(7)
		d, v := y.Over(now)
		wantIds(t, d, p.over(api.Delayed, now)...)
		wantIds(t, v, p.over(api.Reserved, now)...)
	}
}

// P15.2 to P15.10: random plays against a plain yard.
func TestAgainstPlain(t *testing.T) {
	for seed := range 60 {
		r := rand.New(rand.NewSource(int64(seed)))
		y, p := New(), &plain{}
		most := 2 + r.Intn(40)
		for range 250 {
			step(t, r, y, p, most)
			if r.Intn(4) == 0 {
				wantTells(t, y, plainTells(p))
			}
		}
		wantTells(t, y, plainTells(p))
		wantFollows(t, y)
		if t.Failed() {
			t.Fatalf("with the seed %d", seed)
		}
	}
}

// wantFollows is P15.12 and P15.13 of a yard.
func wantFollows(t *testing.T, y *Yard) {
	t.Helper()
	var sum api.Sums
	seen := map[int]int{}
	for _, tube := range y.Tubes() {
		s := y.Sums(tube)
		sum = api.Sums{Ready: sum.Ready + s.Ready, Delayed: sum.Delayed + s.Delayed, Reserved: sum.Reserved + s.Reserved, Buried: sum.Buried + s.Buried, Urgent: sum.Urgent + s.Urgent}
		for _, list := range [][]int{drained(y, tube, (*Yard).Ready), drained(y, tube, (*Yard).Soonest), drained(y, tube, (*Yard).Eldest)} {
			for _, id := range list {
				seen[id]++
			}
		}
		wantIds(t, drained(y, tube, (*Yard).Ready), sortedOf(y, tube, api.Ready, priOf)...)
		wantIds(t, drained(y, tube, (*Yard).Soonest), sortedOf(y, tube, api.Delayed, dueOf)...)
		wantIds(t, drained(y, tube, (*Yard).Eldest), sortedOf(y, tube, api.Buried, orderOf)...)
	}
	for conn := range api.MaxSeats {
		for _, id := range y.Held(conn) {
			seen[id]++
		}
	}
	wantSums(t, y.All(), sum)
	for _, j := range y.Jobs() {
		if seen[j.Id] != 1 {
			t.Errorf("the job %d is in %d of the four", j.Id, seen[j.Id])
		}
		delete(seen, j.Id)
	}
	if len(seen) > 0 {
		t.Errorf("these are no jobs: %v", seen)
	}
}

// drained are the ids that are told first, again and again, each time with the job that was told deleted.
func drained(y *Yard, tube string, first func(y *Yard, tube string) int) []int {
	y = y.Clone()
	var ids []int
	for id := first(y, tube); id != 0 && len(ids) < 1000; id = first(y, tube) {
		ids = append(ids, id)
		y.Delete(id)
	}
	return ids
}

func sortedOf(y *Yard, tube string, state int, by func(j api.Job) int) []int {
	return (&plain{y.Jobs()}).ofTube(tube, state, by)
}

// P15.12: at each moment each job is in one of the four, and the sums are right.
func TestOneState(t *testing.T) {
	r := rand.New(rand.NewSource(1))
	y, p := New(), &plain{}
	for range 300 {
		step(t, r, y, p, 30)
		wantFollows(t, y)
	}
}

// P15.13: what was told first is deleted, again and again, in a tube of many jobs with few numbers.
func TestDrain(t *testing.T) {
	r := rand.New(rand.NewSource(2))
	y := New()
	for _, id := range r.Perm(800) {
		j := []api.Job{ready(id+1, "a", r.Intn(9)-4), delayed(id+1, "a", 1+r.Intn(9)), buried(id+1, "a", 1+r.Intn(9)), reserved(id+1, "a", 1+r.Intn(9), 1)}[r.Intn(4)]
		wantErr(t, y.Add(j), api.OK)
	}
	wantFollows(t, y)
	wantIds(t, y.Held(1), (&plain{y.Jobs()}).held(1)...)
}

// P15.11: what is done to one of the two is never seen at the other, in whatever way both go on.
func TestCloneApart(t *testing.T) {
	calls := []func(y *Yard) api.Errno{addOf(ready(11, "a", 0)), addOf(reserved(12, "c", 1, 4)), addOf(reserved(13, "c", 1, 9)), addOf(delayed(14, "c", 2))}
	for id := 1; id <= 10; id++ {
		calls = append(calls, deleteOf(id))
		for _, j := range append(each(id, "a"), each(id, "b")...) {
			calls = append(calls, setOf(j))
		}
	}
	calls = append(calls, func(y *Yard) api.Errno { y.Over(9); return api.OK })
	for _, call := range calls {
		y := some(t)
		c := y.Clone()
		call(c)
		wantTells(t, y, tellsOf(some(t)))
		other := some(t)
		call(other)
		wantTells(t, c, tellsOf(other))

		y = some(t)
		c = y.Clone()
		call(y)
		wantTells(t, c, tellsOf(some(t)))
		wantTells(t, y, tellsOf(other))
	}
}

// P15.11: clones of clones go their own ways, each like a plain one.
func TestClones(t *testing.T) {
	for seed := range 20 {
		r := rand.New(rand.NewSource(int64(seed)))
		yards, plains := []*Yard{New()}, []*plain{{}}
		for range 300 {
			i := r.Intn(len(yards))
			step(t, r, yards[i], plains[i], 20)
			if r.Intn(30) == 0 && len(yards) < 6 {
				yards, plains = append(yards, yards[i].Clone()), append(plains, plains[i].clone())
			}
		}
		for i, y := range yards {
			wantTells(t, y, plainTells(plains[i]))
			wantFollows(t, y)
		}
		if t.Failed() {
			t.Fatalf("with the seed %d", seed)
		}
	}
}

// P15.11: a clone of a yard without jobs.
func TestCloneOfNone(t *testing.T) {
	y := New()
	c := y.Clone()
	if c == nil || c == y {
		t.Fatal("the clone is no other yard")
	}
	wantErr(t, c.Add(ready(1, "a", 1)), api.OK)
	wantTells(t, y, tellsOf(New()))
	wantTells(t, c, tellsOf(with(t, ready(1, "a", 1))))
}

// roomy is a job whose body has spare room, all of it known.
func roomy(id int) api.Job {
	j := ready(id, "a", 1)
	j.Body = append([]byte("body"), "spare room"...)[:4]
	return j
}

// wantUntouched looks at a body with spare room.
func wantUntouched(t *testing.T, j api.Job) {
	t.Helper()
	if got := string(j.Body[:14]); got != "bodyspare room" {
		t.Errorf("what was handed in became %q", got)
	}
}

// scribble writes over a list and its spare room.
func scribble[T any](list []T, x T) {
	list = list[:cap(list)]
	for i := range list {
		list[i] = x
	}
}

// P15.11, R4: what is handed in is neither changed nor kept, nor its spare room.
func TestHandedIn(t *testing.T) {
	y := New()
	j := roomy(1)
	wantErr(t, y.Add(j), api.OK)
	wantUntouched(t, j)
	scribble(j.Body, 'z')
	wantJob(t, y, roomy(1))
	c := y.Clone()
	j = roomy(1)
	j.Pri = 2
	wantErr(t, y.Set(j), api.OK)
	wantUntouched(t, j)
	scribble(j.Body, 'z')
	wantJob(t, y, withPri(roomy(1), 2))
	wantJob(t, c, roomy(1))
	wantErr(t, y.Set(roomy(1)), api.OK)
	j = roomy(1)
	wantErr(t, y.Add(j), api.ErrYardId)
	wantUntouched(t, j)
}

// P15.11, R4: whatever a caller writes into an answer, no other one shows it, earlier or later, nor a clone's.
func TestAnswers(t *testing.T) {
	y := with(t, roomy(1), reserved(2, "b", 3, 4), reserved(3, "b", 4, 4), delayed(4, "c", 2), delayed(5, "c", 3), buried(6, "b", 1))
	c := y.Clone()
	before := tellsOf(y)
	for _, one := range []*Yard{y, c} {
		early, _ := one.Get(1)
		j, _ := one.Get(1)
		scribble(j.Body, 'z')
		if string(early.Body) != "body" {
			t.Errorf("an earlier answer shows it: %q", early.Body)
		}
		kept := ownBodies(one.Jobs())
		list := one.Jobs()
		for _, j := range list {
			scribble(j.Body, 'z')
		}
		scribble(list, api.Job{Id: 99})
		scribble(one.Tubes(), "z")
		scribble(one.Held(4), 99)
		d, r := one.Over(9)
		scribble(d, 99)
		wantIds(t, r, 2, 3)
		scribble(r, 99)
		wantTells(t, y, before)
		wantTells(t, c, before)
		if !reflect.DeepEqual(kept, ownBodies(one.Jobs())) {
			t.Errorf("Jobs() = %s; want %s", show(one.Jobs()), show(kept))
		}
	}
}

// R4: no two lists of one answer share memory, spare room and all.
func TestListsAreApart(t *testing.T) {
	y := New()
	for id := 1; id <= 20; id++ {
		j := delayed(id, "a", 5)
		if id > 10 {
			j = reserved(id, "a", 5, 0)
		}
		j.Body = []byte(strings.Repeat("x", id))
		wantErr(t, y.Add(j), api.OK)
	}
	d, r := y.Over(5)
	scribble(d, 99)
	wantIds(t, r, 11, 12, 13, 14, 15, 16, 17, 18, 19, 20)
	list := y.Jobs()
	for i := range list {
		scribble(list[i].Body, 'z')
		for _, j := range list[i+1:] {
			if string(j.Body) != strings.Repeat("x", j.Id) {
				t.Errorf("the body of %d shows what was written into that of %d", j.Id, list[i].Id)
			}
		}
	}
}

// R4: a text of which a tube was a piece, and the bodies of jobs that are gone, are not kept.
func TestNothingIsKept(t *testing.T) {
	y := New()
	before := heapInUse()
	for id := 1; id <= 60; id++ {
		text := strings.Repeat("long ", 1<<18)
		j := ready(id, text[:10], 1)
		j.Body = make([]byte, 10, 1<<20)
		wantErr(t, y.Add(j), api.OK)
		wantErr(t, y.Set(j), api.OK)
	}
	for id := 100; id <= 1100; id++ {
		j := ready(id, fmt.Sprint("tube ", id), 1)
		j.Body = make([]byte, api.MaxBody)
		wantErr(t, y.Add(j), api.OK)
		wantErr(t, y.Delete(id), api.OK)
	}
	if grown := heapInUse() - before; grown > 20<<20 {
		t.Errorf("%d bytes are kept", grown)
	}
	runtime.KeepAlive(y)
}

func heapInUse() int {
	runtime.GC()
	var m runtime.MemStats
	runtime.ReadMemStats(&m)
	return int(m.HeapAlloc)
}

// What is gone is not kept: no tube, no holder.
func TestLongLife(t *testing.T) {
	y := New()
	before := heapInUse()
	for id := 1; id <= 30000; id++ {
		for _, j := range append(each(id, fmt.Sprint("tube ", id)), reserved(id, fmt.Sprint("tube ", id), 4, id%64)) {
			if j.State == api.Ready {
				wantErr(t, y.Add(j), api.OK)
			} else {
				wantErr(t, y.Set(j), api.OK)
			}
			y.Over(7)
		}
		wantErr(t, y.Delete(id), api.OK)
	}
	wantTells(t, y, tellsOf(New()))
	if len(y.tubes) != 0 || len(y.held) != 0 || len(y.jobs) != 0 || y.delayed.Len() != 0 || y.reserved.Len() != 0 {
		t.Errorf("there are %d tubes, %d holders, %d jobs still", len(y.tubes), len(y.held), len(y.jobs))
	}
	if grown := heapInUse() - before; grown > 4<<20 {
		t.Errorf("%d bytes are kept", grown)
	}
	runtime.KeepAlive(y)
}

// R1: many jobs, of which some are over at each of many ticks. (To go through all of them each time would take too long.)
func TestManyJobs(t *testing.T) {
	const most = 100000
	y := New()
	for id := 1; id <= most; id++ {
		wantErr(t, y.Add(delayed(id, fmt.Sprint("tube ", id%5000), 1+id*7919%most)), api.OK)
	}
	wantSums(t, y.All(), api.Sums{Delayed: most})
	count := 0
	for now := 1; now <= most; now++ {
		d, r := y.Over(now)
		for _, id := range d {
			j, _ := y.Get(id)
			wantId(t, y.Soonest(j.Tube), id)
			j.State, j.Due, j.Holder = api.Reserved, now+10, id%64
			wantErr(t, y.Set(j), api.OK)
			count++
		}
		for _, id := range r {
			wantId(t, y.Held(id % 64)[0], id)
			j, _ := y.Get(id)
			j.State, j.Due, j.Holder, j.Order = api.Buried, 0, -1, now
			wantErr(t, y.Set(j), api.OK)
		}
	}
	if count != most {
		t.Errorf("%d were over; want %d", count, most)
	}
	wantSums(t, y.All(), api.Sums{Reserved: 10, Buried: most - 10})
	if got := len(y.Tubes()); got != 5000 {
		t.Errorf("there are %d tubes; want 5000", got)
	}
	for id := most; id >= 1; id-- {
		wantErr(t, y.Delete(id), api.OK)
	}
	wantTells(t, y, tellsOf(New()))
}

// R1: wrong jobs of all kinds, one behind the other.
func TestAnything(t *testing.T) {
	r := rand.New(rand.NewSource(3))
	numbers := append(slices.Clone(farNumbers), 2, 3, 4, 5, 63, 64)
	number := func() int { return numbers[r.Intn(len(numbers))] }
	y, p := New(), &plain{}
	for range 30000 {
		j := api.Job{Id: number(), Pri: number(), Delay: number(), TTR: number(), Born: number(), State: r.Intn(6), Due: number() * r.Intn(2), Order: number() * r.Intn(2), Holder: number(), Tube: []string{"", "a", "b"}[r.Intn(3)]}
		if r.Intn(2) == 0 {
			j.Holder = -1
		}
		if at, there := p.place(j.Id); there && r.Intn(2) == 0 {
			j.TTR, j.Born, j.Tube = p.jobs[at].TTR, p.jobs[at].Born, p.jobs[at].Tube
		}
		switch r.Intn(4) {
		case 0:
			wantErr(t, y.Add(j), p.add(j))
		case 3:
			wantErr(t, y.Delete(j.Id), p.delete(j.Id))
		default:
			wantErr(t, y.Set(j), p.set(j))
		}
		now, conn := number(), number()
		d, v := y.Over(now)
		wantIds(t, d, p.over(api.Delayed, now)...)
		wantIds(t, v, p.over(api.Reserved, now)...)
		wantIds(t, y.Held(conn), p.held(conn)...)
	}
	wantTells(t, y, plainTells(p))
}

// R5: yards side by side tell the same of the same calls.
func TestSideBySide(t *testing.T) {
	told := make([]tells, 8)
	var group sync.WaitGroup
	for i := range told {
		group.Go(func() {
			y := New()
			for id := 1; id <= 300; id++ {
				for _, j := range []api.Job{ready(id, fmt.Sprint(id%7), id%5), delayed(id, fmt.Sprint(id%7), 1+id%5)} {
					if y.Add(j) != api.OK {
						y.Set(j)
					}
				}
				if id%3 == 0 {
					y.Set(reserved(id, fmt.Sprint(id%7), 1+id%4, id%6))
				}
				y.Over(id % 9)
			}
			told[i] = tellsOf(y)
		})
	}
	group.Wait()
	for i := range told {
		if !reflect.DeepEqual(told[i], told[0]) {
			t.Errorf("the yard %d tells %s; the first one %s", i, show(told[i]), show(told[0]))
		}
	}
}

// P15.7, P15.8: at the last number of the clock, and with ids at their end.
func TestGreatest(t *testing.T) {
	y := with(t, reserved(api.MaxId, "a", math.MaxInt, 63), reserved(api.MaxId-1, "a", math.MaxInt, 63), delayed(1, "a", math.MaxInt))
	wantIds(t, y.Held(63), api.MaxId-1, api.MaxId)
	wantOver(t, y, math.MaxInt, []int{1}, []int{api.MaxId - 1, api.MaxId})
	wantOver(t, y, math.MaxInt-1, nil, nil)
}
