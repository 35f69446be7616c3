package client

import (
	"errors"
	"fmt"
	"math"
	"math/rand"
	"reflect"
	"slices"
	"strings"
	"testing"

	"stint/api"
)

var errDo = errors.New("it can't be done")

// What a do may be that does nothing but end.
func fine(int, []byte) error   { return nil }
func fails(int, []byte) error  { return errDo }
func panics(int, []byte) error { panic("do") }

// The chapter's example 4.
func TestExampleWork(t *testing.T) {
	b := newBench(t, wide, 5, 1, 2)
	for _, body := range []string{"a", "b", "c"} {
		b.conns[2].Call(put(7, 0, 9, body))
	}
	b.work(1, 5, func(id int, body []byte) error {
		switch id {
		case 1:
			return nil
		case 2:
			return errDo
		}
		panic(id)
	}, "1 delete, 2 release, 3 bury")
	b.jobs("2d 3b")
	if j := b.job(2); j.Due != 6 || j.Pri != 1024 || j.Delay != 1 {
		t.Errorf("the job 2 is %+v", j)
	}
}

// The chapter's example 5.
func TestExampleLose(t *testing.T) {
	for _, x := range []struct {
		fault error
		want  string
		jobs  string
	}{{errDo, "1 lose", "1r"}, {nil, "1 delete", ""}} {
		b := newBench(t, wide, 0, 1, 2)
		b.call(2, put(0, 0, 1, "a"), "INSERTED 1")
		b.work(1, 1, func(int, []byte) error {
			b.tick(2)
			return x.fault
		}, x.want)
		b.jobs(x.jobs)
	}
}

// P22.8: how jobs are ended: with which priority and delay, and what is written.
func TestEndings(t *testing.T) {
	for _, x := range []struct {
		do   func(int, []byte) error
		want string
		job  api.Job
	}{
		{fails, "1 release", api.Job{State: api.Delayed, Pri: 1024, Delay: 1, Due: 4, Counts: api.Counts{Reserves: 1, Releases: 1}}},
		{panics, "1 bury", api.Job{State: api.Buried, Pri: 0, Delay: 0, Order: 1, Counts: api.Counts{Reserves: 1, Buries: 1}}},
		{nil, "1 bury", api.Job{State: api.Buried, Pri: 0, Delay: 0, Order: 1, Counts: api.Counts{Reserves: 1, Buries: 1}}},
	} {
		b := newBench(t, wide, 3, 1, 2)
		b.call(2, put(77, 0, 9, "a"), "INSERTED 1")
		b.d.Acts()
		b.work(1, 9, x.do, x.want)
		b.acts("append1 sync1")
		x.job.Id, x.job.TTR, x.job.Born, x.job.Holder, x.job.Tube, x.job.Body = 1, 9, 3, -1, "default", []byte("a")
		if got := b.job(1); !reflect.DeepEqual(got, x.job) {
			t.Errorf("%s: the job is %+v; want %+v", x.want, got, x.job)
		}
	}
	b := newBench(t, wide, 3, 1, 2)
	b.call(2, put(77, 0, 9, "a"), "INSERTED 1")
	b.work(1, 9, fine, "1 delete")
	b.jobs("")
}

// P22.8: at most so many times; of a most below 1 none, also of a connection that could do nothing.
func TestMost(t *testing.T) {
	for most, want := range map[int]int{math.MinInt: 0, -1: 0, 0: 0, 1: 1, 2: 2, 5: 5, 6: 6, 7: 6, 1 << 32: 6, math.MaxInt: 6} {
		b := newBench(t, wide, 0, 1, 2)
		for i := range 6 {
			b.call(2, put(0, 0, 9, "x"), fmt.Sprint("INSERTED ", i+1))
		}
		before := b.h.Shop().Done[api.CmdReserveWithin]
		count := 0
		list, err := b.conns[1].Work(most, func(int, []byte) error {
			count++
			return nil
		})
		if err != nil || len(list) != want || count != want || len(b.h.Jobs()) != 6-want {
			t.Errorf("most %d: %v, %v, %d", most, list, err, count)
		}
		asked := min(want+1, max(most, 0)) // once more, if it may, to be told that there is no job
		if got := b.h.Shop().Done[api.CmdReserveWithin] - before; got != asked {
			t.Errorf("most %d: %d reserves; want %d", most, got, asked)
		}
	}
	b := newBench(t, wide, 0, 1, 2)
	b.call(1, cmd("reserve"), "/ no answer yet")
	b.call(2, cmd("quit"), "")
	for _, num := range []int{1, 2} {
		b.unchanged("a most below 1", func() {
			b.work(num, 0, fine, "")
			b.work(num, math.MinInt, nil, "")
		})
	}
}

// P22.8: no job is no error; nor does it wait for one.
func TestNoJob(t *testing.T) {
	b := newBench(t, wide, 0, 1, 2)
	b.work(1, 9, nil, "")
	b.answer(1, "/ not the protocol")
	b.call(2, put(0, 0, 9, "x"), "INSERTED 1")
	b.jobs("1r")
	b.call(2, cmd("pause-tube default 1"), "PAUSED")
	b.work(1, 9, fine, "")
	b.tick(1)
	b.work(1, 9, fine, "1 delete")
}

// P22.8: do is called once for each job, with its id and its body.
func TestDoIsToldTheJob(t *testing.T) {
	b := newBench(t, wide, 0, 1, 2)
	bodies := []string{"", "x", "\r\n", strings.Repeat("long", 500), "\x00\xff"}
	var want, got []string
	for i, body := range bodies {
		b.call(2, put(0, 0, 9, body), fmt.Sprint("INSERTED ", i+1))
		want = append(want, fmt.Sprint(i+1, body))
	}
	b.work(1, 99, func(id int, body []byte) error {
		got = append(got, fmt.Sprint(id, string(body)))
		return []error{nil, errDo}[id%2]
	}, "1 release, 2 delete, 3 release, 4 delete, 5 release")
	if !slices.Equal(got, want) {
		t.Errorf("do was called with %q", got)
	}
}

// P22.8: a reserve that is refused for another reason ends the work, with that refusal.
func TestWorkSoon(t *testing.T) {
	b := newBench(t, wide, 0, 1, 2)
	b.call(2, put(0, 0, 2, "mine"), "INSERTED 1")
	b.call(1, cmd("reserve"), "RESERVED 1 4.mine")
	b.tick(1)
	b.call(2, put(0, 0, 9, "a"), "INSERTED 2")
	b.call(2, put(0, 0, 9, "b"), "INSERTED 3")
	list, err := b.conns[1].Work(9, fine)
	f, is := err.(*Refusal)
	if didText(list) != "2 delete, 3 delete" || !is || *f != (Refusal{api.CmdReserveWithin, api.RepSoon}) {
		t.Errorf("Work = %v, %#v", list, err)
	}
	b.work(1, 2, fine, "/ reserve-with-timeout: a reservation ends soon")
	b.tick(1)
	b.work(1, 2, fine, "1 delete")
}

// P22.8: a release that is refused for want of room buries the job.
func TestReleaseBuries(t *testing.T) {
	b := newBench(t, small, 0, 1, 2)
	b.call(2, put(3, 0, 9, "a"), "INSERTED 1")
	b.call(2, put(4, 0, 9, "b"), "INSERTED 2")
	b.noRoom(2)
	b.work(1, 9, fails, "1 bury, 2 bury")
	for id := 1; id <= 2; id++ {
		if j := b.job(id); j.State != api.Buried || j.Pri != 1024 || j.Delay != 0 || j.Counts.Buries != 1 {
			t.Errorf("the job %d is %+v", id, j)
		}
	}
}

// P22.8: where there is no room a job can be deleted and buried all the same.
func TestWorkWithoutRoom(t *testing.T) {
	b := newBench(t, small, 0, 1, 2)
	for i := range 3 {
		b.call(2, put(0, 0, 9, "a"), fmt.Sprint("INSERTED ", i+1))
	}
	b.noRoom(2)
	b.work(1, 9, func(id int, _ []byte) error {
		if id == 2 {
			return nil
		}
		panic(id)
	}, "1 bury, 2 delete, 3 bury")
	if b.job(1).Pri != 0 || b.job(3).Pri != 0 {
		t.Errorf("%+v, %+v", b.job(1), b.job(3))
	}
}

// P22.8: a job that is no longer the connection's is lost, however it was to be ended; the work goes on.
func TestLose(t *testing.T) {
	ends := map[string]func(int, []byte) error{"delete": fine, "release": fails, "bury": panics}
	for name, end := range ends {
		for away, takes := range map[string]func(b *bench){
			"it is gone":         func(b *bench) { b.call(1, cmd("delete 1"), "DELETED") },
			"another one's":      func(b *bench) { b.tick(2); b.call(2, cmd("reserve-job 1"), "RESERVED 1 1.x") },
			"it was ended ahead": func(b *bench) { b.call(1, cmd("bury 1 5"), "BURIED") },
			"it is ready":        func(b *bench) { b.tick(2) },
		} {
			b := newBench(t, wide, 0, 1, 2)
			b.call(2, put(0, 0, 2, "x"), "INSERTED 1")
			b.call(2, put(1, 0, 9, "y"), "INSERTED 2")
			want := "1 lose"
			if name == "delete" && (away == "it was ended ahead" || away == "it is ready") {
				want = "1 delete" // whoever likes may delete it
			}
			calls := 0
			b.work(1, 2, func(id int, body []byte) error {
				calls++
				if id != 1 || calls > 1 {
					return nil
				}
				takes(b)
				return end(id, body)
			}, want+", "+map[bool]string{true: "1 delete", false: "2 delete"}[away == "it is ready" && name != "delete"])
			if calls != 2 {
				t.Errorf("%s, %s: do was called %d times", name, away, calls)
			}
		}
	}
}

// P22.8: an ending that has another error ends the work with it; that job is not told, those ahead of it are.
func TestEndingFails(t *testing.T) {
	for name, end := range map[string]func(int, []byte) error{"delete": fine, "release": fails, "bury": panics} {
		for want, spoils := range map[string]func(b *bench){
			"closed": func(b *bench) { b.close(1, nil) },
			"no answer yet": func(b *bench) {
				b.calls(1, "ignore default + watch z + ignore default + reserve", "NOT_IGNORED / ignore: not ignored + WATCHING 2 + WATCHING 1 + / no answer yet")
			},
		} {
			for _, ahead := range []int{0, 1, 3} {
				b := newBench(t, wide, 0, 1, 2)
				var told []string
				for i := range 5 {
					b.call(2, put(0, 0, 9, "x"), fmt.Sprint("INSERTED ", i+1))
					if i < ahead {
						told = append(told, fmt.Sprint(i+1, " delete"))
					}
				}
				b.work(1, 9, func(id int, body []byte) error {
					if id <= ahead {
						return nil
					}
					spoils(b)
					return end(id, body)
				}, strings.TrimSpace(strings.Join(told, ", ")+" / "+want))
				if j := b.job(ahead + 1); want == "closed" && j.State != api.Ready || want != "closed" && (j.State != api.Reserved || j.Holder != 1) {
					t.Errorf("%s, %s: the job is %+v", name, want, j)
				}
			}
		}
	}
}

// P22.8: a quit within do closes the connection too; one that is dialled anew under its number is another one.
func TestQuitWithinDo(t *testing.T) {
	b := newBench(t, wide, 0, 1, 2)
	b.call(2, put(0, 0, 9, "x"), "INSERTED 1")
	c := b.conns[1]
	list, err := c.Work(9, func(int, []byte) error {
		b.call(1, cmd("quit"), "")
		b.dial(1)
		return nil
	})
	if len(list) != 0 || err != ErrClosed {
		t.Errorf("Work = %v, %v", list, err)
	}
	b.jobs("1r")
	b.work(1, 9, fine, "1 delete")
}

// P22.8: what do panicked with goes nowhere, whatever it is.
func TestAnyPanic(t *testing.T) {
	var nowhere *api.Job
	var none map[string]int
	for name, do := range map[string]func(int, []byte) error{
		"a text": panics, "nil": func(int, []byte) error { panic(nil) }, "an error": func(int, []byte) error { panic(errDo) },
		"a refusal": func(int, []byte) error { panic(&Refusal{api.CmdRelease, api.RepBuried}) }, "ErrClosed": func(int, []byte) error { panic(ErrClosed) },
		"an index": func(_ int, body []byte) error { _ = body[len(body)]; return nil }, "a nil pointer": func(int, []byte) error { nowhere.Id++; return nil },
		"a nil map": func(int, []byte) error { none["a"] = 1; return nil }, "a division": func(id int, body []byte) error { _ = id / (len(body) - 1); return nil },
		"within a deferred function": func(int, []byte) error { defer func() { panic(2) }(); panic(1) }, "behind an answer": func(int, []byte) error { defer panic(1); return nil },
		"none at all": nil,
	} {
		b := newBench(t, wide, 0, 1, 2)
		b.call(2, put(0, 0, 9, "x"), "INSERTED 1")
		b.call(2, put(0, 0, 9, "y"), "INSERTED 2")
		b.work(1, 9, do, "1 bury, 2 bury")
		b.jobs("1b 2b")
		if t.Failed() {
			t.Fatal(name)
		}
	}
}

// P22.8: whatever error do answers is one, also what the package itself has, and one that has nothing in it; one that do catches itself is none.
func TestAnyError(t *testing.T) {
	var nothing *Refusal
	for i, err := range append(eleven(), errDo, nothing, &Refusal{api.CmdReserveWithin, api.RepTimedOut}, &Refusal{api.CmdDelete, api.RepNotFound}, &Refusal{api.CmdRelease, api.RepBuried}) {
		b := newBench(t, wide, 0, 1, 2)
		b.call(2, put(0, 0, 9, "x"), "INSERTED 1")
		b.work(1, 9, func(int, []byte) error { return err }, "1 release")
		if t.Failed() {
			t.Fatal(i)
		}
	}
	b := newBench(t, wide, 0, 1, 2)
	b.call(2, put(0, 0, 9, "x"), "INSERTED 1")
	b.work(1, 9, func(int, []byte) error {
		defer func() { recover() }()
		panic("caught")
	}, "1 delete")
}

// P22.8: while do runs it may use the desk and its connections, the worker's too.
func TestDoUsesTheDesk(t *testing.T) {
	b := newBench(t, wide, 0, 1, 2)
	b.call(2, put(0, 0, 9, "x"), "INSERTED 1")
	b.call(2, cmd("watch z"), "WATCHING 2")
	b.work(1, 3, func(id int, _ []byte) error {
		b.calls(1, fmt.Sprint("touch ", id, " + use t", id, " + list-tube-used"), fmt.Sprint("TOUCHED + USING t", id, " + USING t", id))
		b.answer(1, "/ not the protocol")
		b.tick(1)
		b.dial(10 + id)
		b.call(10+id, cmd("reserve"), "/ no answer yet")
		b.call(2, put(0, 0, 9, "for it"), fmt.Sprint("INSERTED ", id+1))
		b.answer(10+id, fmt.Sprint("RESERVED ", id+1, " 6.for it"))
		b.call(2, put(5, 0, 9, "next"), fmt.Sprint("INSERTED ", id+2))
		b.close(10+id, nil) // its job is ready again, and better
		b.call(2, cmd(fmt.Sprint("delete ", id+1)), "DELETED")
		return nil
	}, "1 delete, 3 delete, 5 delete")
	b.jobs("7r")
}

// P22.8: a worker within a worker, of the same connection and of another one.
func TestWorkWithinWork(t *testing.T) {
	b := newBench(t, wide, 0, 1, 2)
	for i := range 6 {
		b.call(2, put(0, 0, 9, "x"), fmt.Sprint("INSERTED ", i+1))
	}
	depth := 0
	var do func(id int, body []byte) error
	do = func(id int, body []byte) error {
		depth++
		switch id {
		case 1:
			b.work(1, 2, do, "2 bury, 5 release")
		case 2:
			b.work(2, 2, do, "3 delete, 4 delete")
			panic("behind the others' work")
		case 5:
			b.work(1, 9, panics, "6 bury")
			return errDo
		}
		return nil
	}
	b.work(1, 9, do, "1 delete")
	b.jobs("2b 5d 6b")
	if depth != 5 {
		t.Errorf("do was called %d times", depth)
	}
}

// P22.8: a call of the worker that waits within do, and is answered and told there, is no more in the way than one between two calls.
func TestWaitWithinDo(t *testing.T) {
	b := newBench(t, wide, 0, 1, 2)
	b.call(2, put(0, 0, 9, "x"), "INSERTED 1")
	b.work(1, 9, func(id int, _ []byte) error {
		if id > 1 {
			return errDo
		}
		b.call(1, cmd("reserve"), "/ no answer yet")
		b.call(2, put(0, 0, 9, "y"), "INSERTED 2")
		b.answer(1, "RESERVED 2 1.y")
		b.call(2, put(0, 0, 9, "z"), "INSERTED 3")
		return nil
	}, "1 delete, 3 release")
	b.jobs("2R1 3d")
}

// P22.10: the jobs of a work are those that are ready in the connection's tubes, best first, each once, and each ends as do would have it.
func TestWorksJobs(t *testing.T) {
	total := 0
	for seed := range 300 {
		dice := rand.New(rand.NewSource(int64(seed)))
		b := newBench(t, wide, dice.Intn(9), 1, 2)
		for _, line := range []string{"watch a", "watch b", "ignore default"}[:dice.Intn(4)] {
			b.conns[1].Call(cmd(line))
		}
		for range dice.Intn(60) {
			b.conns[2].Call(cmd("use " + []string{"a", "b", "c", "default"}[dice.Intn(4)]))
			b.conns[2].Call(put(1022+dice.Intn(4), max(0, dice.Intn(6)-4), 1+dice.Intn(3), "x"))
			if dice.Intn(6) == 0 {
				b.conns[2].Call(cmd("reserve-with-timeout 0"))
			}
		}
		want := readyFor(t, b)
		most := dice.Intn(len(want) + 5)
		want = want[:min(most, len(want))]
		ends := map[int]int{}
		var told []api.Did
		for _, id := range want {
			ends[id] = 1 + dice.Intn(3)
			told = append(told, api.Did{Id: id, End: ends[id]})
		}
		list, err := b.conns[1].Work(most, func(id int, _ []byte) error {
			if ends[id] == api.DidBury {
				panic(id)
			}
			return []error{nil, errDo}[ends[id]-1]
		})
		if err != nil || !slices.Equal(list, told) {
			t.Fatalf("seed %d: Work = %v, %v; want %v", seed, list, err, told)
		}
		total += len(list)
		wantEnded(t, b, ends)
	}
	if total < 1200 {
		t.Errorf("the plays are too tame: %d", total)
	}
}

// readyFor are the ids of the jobs that are ready in the tubes that connection 1 watches, best first.
func readyFor(t *testing.T, b *bench) []int {
	t.Helper()
	r, err := b.conns[1].Call(cmd("list-tubes-watched"))
	if err != nil {
		t.Fatal(err)
	}
	jobs := slices.DeleteFunc(b.h.Jobs(), func(j api.Job) bool {
		return j.State != api.Ready || !strings.Contains(string(r.Body), "- "+j.Tube+"\n")
	})
	slices.SortFunc(jobs, func(x, y api.Job) int {
		if x.Pri != y.Pri {
			return x.Pri - y.Pri
		}
		return x.Id - y.Id
	})
	var ids []int
	for _, j := range jobs {
		ids = append(ids, j.Id)
	}
	return ids
}

// wantEnded: each job stands as its end says.
func wantEnded(t *testing.T, b *bench, ends map[int]int) {
	t.Helper()
	left := 0
	for _, j := range b.h.Jobs() {
		switch ends[j.Id] {
		case api.DidDelete:
			t.Errorf("the job %d is there", j.Id)
		case api.DidRelease:
			left++
			if j.State != api.Delayed || j.Due != b.h.Now()+1 || j.Pri != 1024 || j.Delay != 1 {
				t.Errorf("the job is %+v", j)
			}
		case api.DidBury:
			left++
			if j.State != api.Buried || j.Pri != 0 {
				t.Errorf("the job is %+v", j)
			}
		}
	}
	for _, end := range ends {
		if end == api.DidDelete {
			left++
		}
	}
	if left != len(ends) {
		t.Errorf("%d of %d jobs stand as they should", left, len(ends))
	}
}
