package client

import (
	"errors"
	"fmt"
	"reflect"
	"strings"
	"testing"

	"stint/api"
	"stint/house"
)

// The chapter's example 1.
func TestExampleCalls(t *testing.T) {
	b := newBench(t, wide, 0, 1, 2)
	for _, num := range []int{1, 64} {
		if c, err := b.d.Dial(num); c != nil || err != ErrClosed {
			t.Errorf("Dial(%d) = %v, %v", num, c, err)
		}
	}
	b.call(1, put(0, 0, 9, "x"), "INSERTED 1")
	b.call(2, cmd("reserve"), "RESERVED 1 1.x")
	r, err := b.conns[1].Call(cmd("delete 1"))
	f, is := err.(*Refusal)
	if r.Kind != api.RepNotFound || !is || *f != (Refusal{api.CmdDelete, api.RepNotFound}) || err.Error() != "delete: not found" || !errors.Is(err, ErrNotFound) {
		t.Errorf("the delete: %+v, %#v", r, err)
	}
}

// The chapter's example 2 (its jobs have the ids of a house to which example 1 came).
func TestExampleAnswer(t *testing.T) {
	b := newBench(t, wide, 0, 1, 2)
	b.call(1, put(0, 0, 9, "x"), "INSERTED 1")
	b.call(2, cmd("reserve"), "RESERVED 1 1.x")
	b.calls(1, "reserve + stats", "/ no answer yet + / no answer yet")
	b.answer(1, "/ no answer yet")
	b.call(2, put(0, 0, 9, "y"), "INSERTED 2")
	b.answer(1, "RESERVED 2 1.y")
	b.answer(1, "/ not the protocol")
}

// The chapter's example 3.
func TestExampleClosed(t *testing.T) {
	b := newBench(t, wide, 0, 1, 2)
	b.unchanged("a wrong put", func() {
		b.call(1, api.Cmd{Kind: api.CmdPut, TTR: 1, Number: 2, Body: []byte("x")}, "/ not the protocol")
	})
	b.calls(1, "quit + stats", " + / closed")
	b.close(1, ErrClosed)
	b.open(2)
}

// P22.3: a new desk has no connections and no acts, whatever came to the house ahead of it.
func TestNew(t *testing.T) {
	h, acts, _ := house.New(wide, 7)
	if len(acts) == 0 {
		t.Fatal("the house has nothing to do")
	}
	h.Join(5)
	h.Feed(5, []byte("put 0 0 9 1\r\nx\r\nreserve\r\n"))
	before := tellsOf(h)
	b := benchOf(t, h)
	b.acts("")
	wantTells(t, "New", tellsOf(h), before)
	b.unchanged("Acts", func() { b.d.Acts() })
	b.dial(1)
	b.call(1, put(0, 0, 9, "y"), "INSERTED 2")
	b.acts("append1 sync1")
}

// P22.3: each number that the house takes, once; no other one.
func TestDial(t *testing.T) {
	b := newBench(t, wide, 0)
	refused := func(num int) {
		t.Helper()
		b.unchanged(fmt.Sprintf("Dial(%d)", num), func() {
			if c, err := b.d.Dial(num); c != nil || err != ErrClosed {
				t.Errorf("Dial(%d) = %v, %v", num, c, err)
			}
		})
	}
	for _, num := range wrongConns {
		refused(num)
	}
	var all []int
	for num := range api.MaxSeats {
		c := b.dial(num)
		all = append(all, num)
		b.open(all...)
		refused(num)
		refused(0)
		b.answer(num, "/ not the protocol")
		b.calls(num, "list-tube-used + list-tubes-watched", "USING default + OK 14.---\n- default\n")
		if c == b.conns[num-1] {
			t.Errorf("%d is the connection ahead of it", num)
		}
	}
	for _, num := range wrongConns {
		refused(num)
	}
	b.calls(63, "use a + quit", "USING a + ")
	b.dial(63)
	b.calls(63, "list-tube-used", "USING default")
	b.close(0, nil)
	b.dial(0)
	refused(0)
	refused(63)
}

// P22.3: a connection of the house that is not the desk's cannot be dialled, till it is gone.
func TestDialForeign(t *testing.T) {
	h, _, _ := house.New(wide, 0)
	h.Join(5)
	h.Feed(5, []byte("reserve-with-timeout 1\r\nquit\r\n"))
	b := benchOf(t, h, 1)
	if c, err := b.d.Dial(5); c != nil || err != ErrClosed {
		t.Errorf("Dial(5) = %v, %v", c, err)
	}
	b.tick(1)
	b.open(1)
	b.dial(5)
	b.calls(5, "list-tube-used", "USING default") // nothing is left of what was said to the other one
	b.answer(5, "/ not the protocol")
}

// P22.4: what is said to connections that are not the desk's goes nowhere; what they do to files comes all the same.
func TestForeign(t *testing.T) {
	h, _, _ := house.New(wide, 0)
	for _, num := range []int{0, 5, 63} {
		h.Join(num)
	}
	h.Feed(0, []byte("reserve\r\ndelete 1\r\nreserve\r\n"))
	h.Feed(63, []byte("reserve-with-timeout 2\r\nput 0 0 9 1\r\nz\r\nquit\r\n"))
	b := benchOf(t, h, 1, 2)
	b.call(2, cmd("reserve"), "/ no answer yet")
	b.call(1, put(0, 0, 9, "x"), "INSERTED 1")
	b.acts("append1 sync1 append1 sync1 create2 append2 sync2 remove1") // 0 has deleted the last job
	b.answer(2, "/ no answer yet")
	b.tick(2)
	b.acts("append2 sync2")
	b.answer(2, "RESERVED 2 1.z")
	b.open(0, 1, 2, 5)
	b.close(2, nil) // its job goes to 0, which waits
	b.jobs("2R0")
	b.calls(1, "touch 2 + list-tube-used", "NOT_FOUND / touch: not found + USING default")
}

// P22.4: a tick is one of the house's, and tells those that wait what it brings.
func TestTick(t *testing.T) {
	b := newBench(t, wide, 3, 1, 2, 3, 4)
	b.call(1, cmd("reserve-with-timeout 2"), "/ no answer yet")
	b.call(4, put(0, 0, 3, "j"), "INSERTED 1")
	b.answer(1, "RESERVED 1 1.j")
	b.call(1, cmd("reserve"), "/ no answer yet")                // told at 5 that its job runs out
	b.call(2, cmd("reserve-with-timeout 3"), "/ no answer yet") // told at 6
	b.call(3, cmd("reserve"), "/ no answer yet")                // told at 7
	b.call(4, put(5, 4, 9, "k"), "INSERTED 2")
	b.call(4, cmd("reserve-job 2"), "RESERVED 2 1.k")
	b.call(4, cmd("release 2 5 4"), "RELEASED")
	b.acts("append1 sync1 append1 sync1 append1 sync1 append1 sync1")
	for _, want := range [][4]string{
		{"/ no answer yet", "/ no answer yet", "/ no answer yet"},
		{"DEADLINE_SOON / reserve: a reservation ends soon", "/ no answer yet", "/ no answer yet"},
		{"/ not the protocol", "RESERVED 1 1.j", "/ no answer yet"}, // 1's job is ready, and 2 waited longest
		{"/ not the protocol", "/ not the protocol", "RESERVED 2 1.k"},
	} {
		b.tick(1)
		for i := range 3 {
			b.answer(i+1, want[i])
		}
	}
	if b.h.Now() != 7 {
		t.Errorf("the clock is %d", b.h.Now())
	}
	b.acts("")
}

// P22.4: a timeout of a reserve that waits is told as a refusal.
func TestTimedOut(t *testing.T) {
	b := newBench(t, wide, 0, 1, 2)
	b.call(1, cmd("reserve-with-timeout 2"), "/ no answer yet")
	b.call(2, cmd("reserve-with-timeout 1"), "/ no answer yet")
	b.tick(1)
	b.answer(1, "/ no answer yet")
	b.tick(5)
	b.answer(2, "TIMED_OUT / reserve-with-timeout: timed out")
	b.answer(1, "TIMED_OUT / reserve-with-timeout: timed out")
	b.call(1, cmd("reserve-with-timeout 0"), "TIMED_OUT / reserve-with-timeout: timed out")
}

// P22.4, R8: at the end of time the clock stands.
func TestTickAtEnd(t *testing.T) {
	b := newBench(t, wide, api.MaxNow-1, 1)
	b.call(1, cmd("reserve-with-timeout 2"), "/ no answer yet")
	b.tick(9)
	b.answer(1, "/ no answer yet")
	if b.h.Now() != api.MaxNow {
		t.Errorf("the clock is %d", b.h.Now())
	}
}

// P22.4: Acts are those of the house, whole and in order, over several calls; each is told once.
func TestActs(t *testing.T) {
	b := newBench(t, small, 0, 1, 2)
	twin := b.h.Clone()
	var want, got []api.Act
	feed := func(outs []api.Out, _ api.Errno) {
		for _, x := range outs {
			if x.Kind == api.OutAct {
				want = append(want, x.Act)
			}
		}
	}
	for i := range 40 {
		b.conns[1].Call(put(i%3, i%2, 9, strings.Repeat("x", i)))
		feed(twin.Feed(1, []byte(fmt.Sprint("put ", i%3, " ", i%2, " 9 ", i, "\r\n", strings.Repeat("x", i), "\r\n"))))
		if i%3 == 0 {
			b.conns[2].Call(api.Cmd{Kind: api.CmdDelete, Id: i/2 + 1})
			feed(twin.Feed(2, []byte(fmt.Sprint("delete ", i/2+1, "\r\n"))))
		}
		if i%5 == 0 {
			b.d.Tick()
			feed(twin.Tick(), api.OK)
		}
		if i%7 == 0 {
			got = append(got, b.d.Acts()...)
			b.acts("")
		}
	}
	got = append(got, b.d.Acts()...)
	if !reflect.DeepEqual(got, want) {
		t.Errorf("the acts are %s; want %s", show(got), show(want))
	}
	kinds := map[int]int{}
	for _, a := range got {
		kinds[a.Kind]++
	}
	if kinds[api.ActCreate] == 0 || kinds[api.ActRemove] == 0 || kinds[api.ActAppend] < 15 {
		t.Errorf("the play is too tame: %v", kinds)
	}
	b.acts("")
}

// P22.5: each command, done.
func TestEachCommand(t *testing.T) {
	b := newBench(t, wide, 0, 1, 2)
	b.call(1, put(5, 0, 9, "a\r\nb"), "INSERTED 1")
	b.call(1, put(1<<32-1, 1<<32-1, 1<<32-1, ""), "INSERTED 2")
	b.calls(1, "use t + list-tube-used + watch t + ignore default", "USING t + USING t + WATCHING 2 + WATCHING 1")
	b.call(1, put(7, 0, 1, strings.Repeat("z", 65535)), "OUT_OF_MEMORY / put: out of memory")
	b.call(1, put(7, 0, 9, "c"), "INSERTED 3")
	b.calls(1, "peek 1 + peek-ready + reserve + touch 3 + bury 3 4 + peek-buried + kick 9 + reserve-with-timeout 0", "FOUND 1 4.a.b + FOUND 3 1.c + RESERVED 3 1.c + TOUCHED + BURIED + FOUND 3 1.c + KICKED 1 + RESERVED 3 1.c")
	b.calls(1, "release 3 1 2 + peek-delayed + kick-job 3 + reserve-job 3 + delete 3", "RELEASED + FOUND 3 1.c + KICKED + RESERVED 3 1.c + DELETED")
	b.calls(1, "pause-tube t 3 + list-tubes + list-tubes-watched", "PAUSED + OK 18.---\n- default\n- t\n + OK 8.---\n- t\n")
	for _, line := range []string{"stats", "stats-job 1", "stats-tube t"} {
		r, err := b.conns[1].Call(cmd(line))
		if r.Kind != api.RepData || !strings.HasPrefix(string(r.Body), "---\n") || err != nil {
			t.Errorf("%s: %s, %v", line, show(r), err)
		}
	}
	b.calls(1, "quit", "")
	b.open(2)
}

// P22.5, P22.7: each command, refused: the reply is told beside the error.
func TestEachRefusal(t *testing.T) {
	b := newBench(t, five, 0, 1, 2)
	b.call(1, put(0, 0, 9, "123456"), "JOB_TOO_BIG / put: too big")
	b.call(1, put(0, 0, 9, strings.Repeat("z", 65535)), "JOB_TOO_BIG / put: too big")
	for _, line := range []string{"reserve-job 1", "delete 1", "release 1 0 0", "bury 1 0", "touch 1", "peek 1", "peek-ready", "peek-delayed", "peek-buried", "kick-job 1", "stats-job 1", "stats-tube no", "pause-tube no 1"} {
		verb, _, _ := strings.Cut(line, " ")
		b.call(1, cmd(line), "NOT_FOUND / "+verb+": not found")
	}
	b.calls(1, "ignore default + reserve-with-timeout 0", "NOT_IGNORED / ignore: not ignored + TIMED_OUT / reserve-with-timeout: timed out")
	b.call(1, put(0, 0, 1, "12345"), "INSERTED 1")
	b.calls(1, "reserve + reserve + reserve-with-timeout 0", "RESERVED 1 5.12345 + DEADLINE_SOON / reserve: a reservation ends soon + DEADLINE_SOON / reserve-with-timeout: a reservation ends soon")
	b.calls(2, "delete 1 + reserve-job 1", "NOT_FOUND / delete: not found + NOT_FOUND / reserve-job: not found")
}

// P22.5: refusals for want of room, and by a house that drains.
func TestNoRoom(t *testing.T) {
	b := newBench(t, small, 0, 1, 2)
	b.call(1, put(0, 0, 9, "a"), "INSERTED 1")
	b.call(1, put(1, 0, 9, "b"), "INSERTED 2")
	b.calls(2, "reserve + bury 1 7 + reserve", "RESERVED 1 1.a + BURIED + RESERVED 2 1.b")
	b.noRoom(1)
	b.call(1, put(0, 0, 9, ""), "OUT_OF_MEMORY / put: out of memory")
	b.calls(1, "kick-job 1 + reserve-job 1 + kick 1", "OUT_OF_MEMORY / kick-job: out of memory + OUT_OF_MEMORY / reserve-job: out of memory + KICKED 0")
	b.calls(2, "release 2 0 0 + peek-buried", "BURIED / release: buried + FOUND 1 1.a")
	h, _, _ := house.New(small, 0)
	h.Drain()
	b = benchOf(t, h, 1)
	b.call(1, put(0, 0, 9, ""), "DRAINING / put: draining")
	b.call(1, cmd("kick 1"), "KICKED 0")
}

// wrongCmds are commands that verbs.Check refuses; the house would answer some of them, and some of them would be lines that say another command.
func wrongCmds() []api.Cmd {
	list := []api.Cmd{
		{}, {Kind: -1}, {Kind: 26}, {Kind: 256 + api.CmdStats}, {Kind: 1<<32 + api.CmdStats},
		{Kind: api.CmdStats, Id: 1}, {Kind: api.CmdStats, Body: []byte("x")}, {Kind: api.CmdQuit, Number: 1}, {Kind: api.CmdQuit, Tube: "a"}, {Kind: api.CmdReserve, TTR: 1},
		{Kind: api.CmdUse}, {Kind: api.CmdUse, Tube: "-a"}, {Kind: api.CmdUse, Tube: "a\r\nquit"}, {Kind: api.CmdUse, Tube: "a b"}, {Kind: api.CmdUse, Tube: strings.Repeat("a", 201)},
		{Kind: api.CmdDelete, Id: -1}, {Kind: api.CmdDelete, Id: 1 << 62}, {Kind: api.CmdDelete, Id: 1, Number: 1}, {Kind: api.CmdReserveWithin, Number: 1 << 32}, {Kind: api.CmdKick, Number: -1},
		{Kind: api.CmdPut, Number: 1, Body: []byte("x")}, {Kind: api.CmdPut, TTR: 1, Number: 1}, {Kind: api.CmdPut, TTR: 1, Body: []byte("x")}, {Kind: api.CmdPut, TTR: 1, Pri: 1 << 32}, {Kind: api.CmdPut, TTR: 1, Delay: -1},
		{Kind: api.CmdPut, TTR: 1, Number: 2, Body: []byte("x\r\nstats")}, {Kind: api.CmdPut, TTR: 1, Tube: "a"}, {Kind: api.CmdPut, TTR: 1, Id: 1}, {Kind: api.CmdPut, TTR: 1, Number: -1},
		{Kind: api.CmdPut, TTR: 1, Number: 65536, Body: make([]byte, 65536)}, {Kind: api.CmdPut, TTR: 1, Number: 1<<32 - 1}, {Kind: api.CmdPause, Number: 1}, {Kind: api.CmdPause, Tube: "a", Number: 1 << 32},
	}
	for kind := 1; kind <= api.Commands; kind++ {
		list = append(list, api.Cmd{Kind: kind, Id: -1, Pri: -1, Delay: -1, TTR: -1, Number: -1, Tube: " ", Body: []byte("\r\n")})
	}
	return list
}

// P22.5: what verbs.Check refuses is not fed, and what comes behind it is done.
func TestWrongCommands(t *testing.T) {
	b := newBench(t, wide, 0, 1, 2)
	b.call(1, put(0, 0, 9, "x"), "INSERTED 1")
	for _, x := range wrongCmds() {
		b.unchanged(show(x), func() { b.call(1, x, "/ not the protocol") })
		b.answer(1, "/ not the protocol")
	}
	b.calls(1, "list-tube-used + reserve", "USING default + RESERVED 1 1.x")
}

// P22.5, R2: which error comes first: that it is closed, that a call waits, that the command is wrong.
func TestFirstError(t *testing.T) {
	b := newBench(t, wide, 0, 1, 2, 3)
	wrong := wrongCmds()
	b.call(1, cmd("reserve"), "/ no answer yet")
	waits := func(num int) {
		t.Helper()
		b.unchanged("it waits", func() {
			for _, x := range append(wrong, cmd("quit"), cmd("stats"), cmd("reserve"), put(0, 0, 9, "z")) {
				b.call(num, x, "/ no answer yet")
			}
			b.work(num, 1, nil, "/ no answer yet")
		})
	}
	waits(1)
	b.answer(1, "/ no answer yet")
	waits(1)
	b.call(2, put(0, 0, 9, "x"), "INSERTED 1")
	waits(1) // the answer came, but was not told
	b.answer(1, "RESERVED 1 1.x")
	b.call(1, cmd("reserve"), "/ no answer yet")
	b.close(1, nil)
	b.call(2, cmd("quit"), "")
	b.call(3, put(0, 0, 9, "y"), "INSERTED 2")
	for _, num := range []int{1, 2} {
		b.unchanged("it is closed", func() {
			for _, x := range append(wrong, cmd("quit"), cmd("stats"), put(0, 0, 9, "z")) {
				b.call(num, x, "/ closed")
			}
			b.answer(num, "/ closed")
			b.close(num, ErrClosed)
			b.work(num, 3, nil, "/ closed")
		})
	}
	b.jobs("1r 2r")
}

// P22.5: a quit gives back what the connection holds, and others are told of it.
func TestQuit(t *testing.T) {
	b := newBench(t, wide, 0, 1, 2, 3)
	b.call(1, put(0, 0, 9, "x"), "INSERTED 1")
	b.call(1, cmd("reserve"), "RESERVED 1 1.x")
	b.call(3, cmd("reserve"), "/ no answer yet")
	b.call(2, cmd("reserve"), "/ no answer yet")
	b.call(1, cmd("quit"), "")
	b.open(2, 3)
	b.answer(3, "RESERVED 1 1.x")
	b.answer(2, "/ no answer yet")
	b.answer(1, "/ closed")
	b.dial(1)
	b.call(1, put(0, 0, 9, "y"), "INSERTED 2")
	b.answer(2, "RESERVED 2 1.y")
}

// P22.6: an answer is told once, with the fault of the command that waited.
func TestAnswer(t *testing.T) {
	b := newBench(t, wide, 0, 1, 2)
	for i, line := range []string{"reserve", "reserve-with-timeout 5"} {
		b.answer(1, "/ not the protocol")
		b.call(1, cmd(line), "/ no answer yet")
		for range 3 {
			b.answer(1, "/ no answer yet")
		}
		b.call(2, put(0, 0, 9, "x"), fmt.Sprint("INSERTED ", i+1))
		b.call(2, cmd("kick 1"), "KICKED 0")
		b.tick(1)
		b.answer(1, fmt.Sprint("RESERVED ", i+1, " 1.x"))
		b.answer(1, "/ not the protocol")
		b.call(1, cmd("list-tube-used"), "USING default")
	}
	b.calls(1, "touch 1 + reserve", "TOUCHED + / no answer yet")
	b.tick(7) // the job 2, which was not touched, runs out first
	b.answer(1, "DEADLINE_SOON / reserve: a reservation ends soon")
	b.answer(1, "/ not the protocol")
	b.call(1, cmd("delete 2"), "DELETED")
}

// P22.7: what a closing gives back goes to who waits; a call that waits is never answered.
func TestClose(t *testing.T) {
	b := newBench(t, wide, 0, 1, 2, 3)
	b.call(1, put(0, 0, 9, "x"), "INSERTED 1")
	b.call(1, cmd("reserve"), "RESERVED 1 1.x")
	b.call(2, cmd("reserve"), "/ no answer yet")
	b.call(3, cmd("reserve"), "/ no answer yet")
	b.close(2, nil)
	b.close(1, nil)
	b.close(1, ErrClosed)
	b.close(2, ErrClosed)
	b.open(3)
	b.answer(1, "/ closed")
	b.answer(2, "/ closed")
	b.answer(3, "RESERVED 1 1.x")
	b.dial(1)
	b.call(1, cmd("reserve"), "/ no answer yet")
	b.close(3, nil) // its answer was told; that of 1 comes of it, and is closed ahead of being asked for
	b.close(1, nil)
	b.dial(1)
	b.answer(1, "/ not the protocol")
	b.calls(1, "list-tube-used + reserve", "USING default + RESERVED 1 1.x")
}

// P22.3, P22.7: of two connections of one number the one that is closed stays so, and neither sees what the other one is told.
func TestDialAgain(t *testing.T) {
	for _, end := range []func(c *Conn){func(c *Conn) { c.Close() }, func(c *Conn) { c.Call(cmd("quit")) }} {
		b := newBench(t, wide, 0, 1, 2)
		old := b.conns[1]
		b.call(1, cmd("use old"), "USING old")
		end(old)
		b.dial(1)
		b.call(1, cmd("list-tube-used"), "USING default")
		b.call(1, cmd("reserve"), "/ no answer yet")
		closed := func() {
			t.Helper()
			if _, err := old.Call(cmd("stats")); err != ErrClosed {
				t.Errorf("Call: %v", err)
			}
			if _, err := old.Answer(); err != ErrClosed {
				t.Errorf("Answer: %v", err)
			}
			if err := old.Close(); err != ErrClosed {
				t.Errorf("Close: %v", err)
			}
		}
		closed()
		b.call(2, put(0, 0, 9, "x"), "INSERTED 1")
		closed()
		b.answer(1, "RESERVED 1 1.x")
		closed()
		b.open(1, 2)
	}
}

// P22.9: all connections but one wait, and each is told its own job, by the order in which they began to.
func TestAllWait(t *testing.T) {
	b := newBench(t, wide, 0, 0)
	var order []int
	for i := range 63 {
		num := 1 + i*20%63
		order = append(order, num)
		b.dial(num)
		b.call(num, cmd("reserve"), "/ no answer yet")
	}
	for i := range 63 {
		b.call(0, put(0, 0, 9, fmt.Sprint("job", i+1)), fmt.Sprint("INSERTED ", i+1))
	}
	for i := 62; i >= 0; i-- {
		body := fmt.Sprint("job", i+1)
		b.answer(order[i], fmt.Sprint("RESERVED ", i+1, " ", len(body), ".", body))
		b.answer(order[i], "/ not the protocol")
	}
}

// P22.9: two desks with a house each do not touch.
func TestTwoDesks(t *testing.T) {
	x, y := newBench(t, wide, 0, 1, 2), newBench(t, wide, 0, 1, 2)
	x.call(1, cmd("reserve"), "/ no answer yet")
	y.call(1, cmd("reserve"), "/ no answer yet")
	x.call(2, put(0, 0, 9, "x"), "INSERTED 1")
	y.answer(1, "/ no answer yet")
	y.acts("")
	x.answer(1, "RESERVED 1 1.x")
	y.call(2, put(0, 0, 9, "y"), "INSERTED 1")
	y.answer(1, "RESERVED 1 1.y")
	x.close(1, nil)
	y.call(1, cmd("list-tube-used"), "USING default")
}
