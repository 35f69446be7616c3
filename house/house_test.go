package house

import (
	"fmt"
	"math"
	"reflect"
	"slices"
	"strings"
	"testing"

	"stint/api"
	"stint/engine"
)

// The chapter's examples, one behind the other.
func TestExamples(t *testing.T) {
	b := newBench(t, five, 0, 1, 2)
	if b.h.Join(1) != api.ErrHouseConn || b.h.Join(64) != api.ErrHouseConn {
		t.Error("Join of one that is there, or may not be, is not refused")
	}
	if outs, err := b.h.Feed(3, []byte("a")); err != api.ErrHouseConn || len(outs) != 0 {
		t.Errorf("Feed: %s, %d", show(outs), err)
	}
	if outs, err := b.h.Hang(3); err != api.ErrHouseConn || len(outs) != 0 {
		t.Errorf("Hang: %s, %d", show(outs), err)
	}
	b.held(0, 0)
	b.feed(1, "put 0 0 9 2.a", "")
	b.held(14, 0)
	b.feed(1, "b.PUT.put 0 0 1 x.", "D1 S1 INSERTED 1. D1 S1 UNKNOWN_COMMAND. D1 S1 BAD_FORMAT.")
	b.held(0, 0)
	b.feed(1, "put 0 0 9 6.abcdef.put 0 0 9 1.abc.", "D1 S1 JOB_TOO_BIG. D1 S1 EXPECTED_CRLF. D1 S1 UNKNOWN_COMMAND.")
	b.held(0, 0)
	b.feed(2, "reserve.reserve.delete 1.", "D2 S2 RESERVED 1 2.ab. D2")
	b.held(0, 10)
	b.feed(1, "put 0 0 9 1.c.kick 1.", "D1 S1 INSERTED 2. S2 RESERVED 2 1.c. D2 S2 DELETED. D1 S1 KICKED 0.")
	b.held(0, 0)
	b.feed(2, "quit.use a.", "D2 H2")
	b.conns(1)
	b.held(0, 0)
	b.feed(1, "reserve.", "D1 S1 RESERVED 2 1.c.")
	b.held(0, 0)
}

// The examples of the whole that a house can show.
func TestExamplesOfTheWhole(t *testing.T) {
	b := newBench(t, wide, 10, 1, 2, 3)
	b.feed(1, "put 10 0 60 5.hello.", "D1 S1 INSERTED 1.")
	b.feed(2, "reserve.", "D2 S2 RESERVED 1 5.hello.")
	b.feed(2, "delete 1.", "D2 S2 DELETED.")
	b.feed(2, "reserve.", "D2")
	b.feed(1, "put 10 0 3 5.hello.", "D1 S1 INSERTED 2. S2 RESERVED 2 5.hello.")
	b.feed(3, "reserve-with-timeout 0.", "D3 S3 TIMED_OUT.")
	b.feed(3, "reserve-with-timeout 2.", "D3")
	b.feed(2, "reserve.touch 2.", "D2")
	b.tick(2, "S3 TIMED_OUT. S2 DEADLINE_SOON. D2 S2 TOUCHED.")
	b.tick(3, "")
	b.feed(2, "touch 2.delete 2.", "D2 S2 NOT_FOUND. D2 S2 DELETED.")
	b.feed(1, "put 0 0 1 99999999.", "")
	for range 99 {
		b.feed(1, strings.Repeat("x", 1000000), "")
	}
	b.feed(1, strings.Repeat("x", 999999), "")
	b.held(20 + 99999999)
	b.feed(1, ".", "D1 S1 JOB_TOO_BIG.")
	b.feed(1, "put 0 0 1 2.abc.", "D1 S1 EXPECTED_CRLF.")
	b.held(1)
	b.feed(1, "stats.use a.", "D1 S1 UNKNOWN_COMMAND. D1 S1 USING a.")
	b.feed(1, "ignore default.watch a.ignore default.", "D1 S1 NOT_IGNORED. D1 S1 WATCHING 2. D1 S1 WATCHING 1.")
	b.feed(1, "reserve.stats.", "D1")
	b.held(7)
}

// Clocks at which no house begins, and configs that may not be.
var (
	wrongNows    = []int{math.MinInt, -1 << 40, -2, -1, 1<<40 + 1, 1 << 41, 1 << 62, math.MaxInt}
	wrongConfigs = []api.Config{{}, {JobMax: 0, Segment: 256, Quota: 1024}, {JobMax: 65536, Segment: 256, Quota: 1024}, {JobMax: 1, Segment: 127, Quota: 1024}, {JobMax: 1, Segment: 257, Quota: 1024}, {JobMax: 1, Segment: 256, Quota: 1 << 27}, {JobMax: -1, Segment: -1, Quota: -1}}
)

// P18.1: what a new house tells, and what has to be done for it.
func TestNew(t *testing.T) {
	for _, c := range []api.Config{five, wide, small, {JobMax: 1, Segment: 128, Quota: 1024}, {JobMax: 65535, Segment: 1 << 20, Quota: 1 << 26}} {
		for _, now := range []int{0, 1, 10, 1<<40 - 1, 1 << 40} {
			h, acts, err := New(c, now)
			e, want, _ := engine.New(c, now)
			if h == nil || err != api.OK || !reflect.DeepEqual(acts, want) {
				t.Fatalf("New(%+v, %d): %d, %s", c, now, err, show(acts))
			}
			wantTells(t, h, tells{held: make([]int, 64), now: now, tubes: e.Tubes(), shop: e.Shop()})
		}
	}
}

// P18.1, R2: what is refused, and which error comes first.
func TestBeginRefused(t *testing.T) {
	files := filesOf(t, small, api.Stored{Pri: 1, TTR: 9, State: api.Ready, Tube: "a"})
	alike := append(slices.Clone(files), files...)
	refused := func(want api.Errno) func(h *House, acts []api.Act, err api.Errno) {
		return func(h *House, acts []api.Act, err api.Errno) {
			t.Helper()
			if h != nil || len(acts) != 0 || err != want {
				t.Errorf("%v, %s, %d; want nil, none, %d", h, show(acts), err, want)
			}
		}
	}
	for _, now := range append([]int{0, 1 << 40}, wrongNows...) {
		for _, c := range wrongConfigs {
			refused(api.ErrConfig)(New(c, now))
			refused(api.ErrConfig)(Open(c, now, nil))
			refused(api.ErrConfig)(Open(c, now, files))
			refused(api.ErrConfig)(Open(c, now, alike))
		}
	}
	for _, now := range wrongNows {
		refused(api.ErrEngineNow)(New(small, now))
		refused(api.ErrEngineNow)(Open(small, now, files))
		refused(api.ErrEngineNow)(Open(small, now, alike))
	}
	refused(api.ErrArg)(Open(small, 0, alike))
	refused(api.ErrArg)(Open(small, 0, []api.File{{Num: 0}}))
	refused(api.ErrArg)(Open(small, 0, []api.File{{Num: 1<<40 + 1}}))
}

// P18.1: a house that is opened has the engine's jobs, clock and acts, and no connection.
func TestOpen(t *testing.T) {
	files := filesOf(t, small,
		api.Stored{Pri: 1, TTR: 9, State: api.Ready, Tube: "default", Body: []byte("x")},
		api.Stored{Pri: 1, TTR: 9, State: api.Delayed, Due: 30, Tube: "b", Body: []byte("y")},
		api.Stored{Pri: 1, TTR: 9, State: api.Delayed, Due: 20, Tube: "b", Body: []byte("z")},
	)
	last := &files[len(files)-1]
	last.Data = append(slices.Clone(last.Data), "torn"...)
	for _, list := range [][]api.File{nil, files, files[1:], {{Num: 9}}} {
		h, acts, err := Open(small, 20, list)
		e, want, _ := engine.Open(small, 20, list)
		if h == nil || err != api.OK || !reflect.DeepEqual(acts, want) {
			t.Fatalf("Open: %d, %s", err, show(acts))
		}
		wantTells(t, h, tells{held: make([]int, 64), now: 20, jobs: ownJobs(e.Jobs()), tubes: e.Tubes(), shop: e.Shop()})
	}
	h, acts, _ := Open(small, 20, files)
	if len(acts) != 1 || acts[0].Kind != api.ActCut {
		t.Errorf("the acts are %s", show(acts))
	}
	h.Join(0)
	outs, err := h.Feed(0, text("watch b.reserve.reserve.reserve-with-timeout 0.put 0 0 1 101."))
	got, _ := spoken(t, outs)
	if err != api.OK || got != "D0 S0 WATCHING 2. D0 S0 RESERVED 1 1.x. D0 S0 RESERVED 3 1.z. D0 S0 TIMED_OUT." {
		t.Errorf("Feed: %d, %s", err, got)
	}
}

// P18.1: a house keeps bodies of at most JobMax bytes, opened or new.
func TestJobMax(t *testing.T) {
	for _, most := range []int{1, 2, 5, 100, 65534, 65535} {
		c := api.Config{JobMax: most, Segment: 1 << 18, Quota: 1 << 20}
		first, _, _ := New(c, 0)
		second, _, _ := Open(c, 0, nil)
		for _, h := range []*House{first, second, second.Clone()} {
			h.Join(7)
			for size, want := range map[int]string{0: "INSERTED", most - 1: "INSERTED", most: "INSERTED", most + 1: "JOB_TOO_BIG", most + 70000: "JOB_TOO_BIG"} {
				outs, err := h.Feed(7, text(fmt.Sprint("put 0 0 9 ", size, ".")+strings.Repeat("b", size)+"."))
				if err != api.OK || len(outs) == 0 || !strings.HasPrefix(string(outs[len(outs)-1].Data), want) {
					t.Errorf("JobMax %d, a body of %d: %d, %s", most, size, err, show(words(t, outs)))
				}
			}
		}
	}
}

// P18.2: which connections may come, and who is there.
func TestJoin(t *testing.T) {
	b := newBench(t, five, 3)
	for _, conn := range wrongConns {
		before := tellsOf(b.h)
		if err := b.h.Join(conn); err != api.ErrHouseConn {
			t.Errorf("Join(%d) = %d", conn, err)
		}
		wantTells(t, b.h, before)
	}
	order := []int{}
	for i := range 64 {
		order = append(order, i*37%64)
	}
	for i, conn := range order {
		b.join(conn)
		there := slices.Sorted(slices.Values(order[:i+1]))
		b.conns(there...)
		wantInt(t, b.h.Shop().Seats, i+1)
		wantInt(t, b.h.Shop().Opened, i+1)
	}
	for conn := range 64 {
		before := tellsOf(b.h)
		if err := b.h.Join(conn); err != api.ErrHouseConn {
			t.Errorf("Join(%d) = %d", conn, err)
		}
		wantTells(t, b.h, before)
		b.feed(conn, "list-tube-used.", fmt.Sprintf("D%d S%d USING default.", conn, conn))
	}
}

// P18.2: of what came from an earlier connection of that number nothing is left, whatever it was, and however it went.
func TestJoinAgain(t *testing.T) {
	for _, left := range []string{"", "use", "use a\r", strings.Repeat("x", 223), strings.Repeat("x", 300), strings.Repeat("x", 300) + "\r", "put 0 0 9 3.", "put 0 0 9 3.ab", "put 0 0 9 3.abc\r", "put 0 0 9 60.abc", "reserve.", "reserve.use b.use", "reserve.quit.stats.", "use b."} {
		for _, quits := range []bool{false, true} {
			b := newBench(t, five, 0, 1, 2)
			if quits {
				b.feed(1, "quit."+left, "D1 H1")
			} else {
				b.h.Feed(1, text(left))
				b.hang(1, "")
			}
			b.conns(2)
			b.held(0, 0)
			b.join(1)
			b.held(0, 0)
			b.feed(1, "\n", "")
			b.feed(1, ".", "D1 S1 UNKNOWN_COMMAND.")
			b.feed(1, "list-tube-used.list-tubes-watched.", "D1 S1 USING default. D1 S1 OK 14.---\n- default\n.")
			b.feed(1, "put 0 0 9 1.x.", "D1 S1 INSERTED 1.")
			b.feed(2, "reserve.", "D2 S2 RESERVED 1 1.x.")
		}
	}
}

// P18.3: Hang is refused of who is not there; else the connection is gone, and its jobs are ready.
func TestHang(t *testing.T) {
	b := newBench(t, five, 0, 1, 2, 3)
	for _, conn := range append([]int{0, 4, 63}, wrongConns...) {
		before := tellsOf(b.h)
		if outs, err := b.h.Hang(conn); err != api.ErrHouseConn || len(outs) != 0 {
			t.Errorf("Hang(%d): %s, %d", conn, show(outs), err)
		}
		wantTells(t, b.h, before)
	}
	b.feed(1, "put 0 0 9 1.a.put 0 0 9 1.b.reserve.reserve.", "D1 S1 INSERTED 1. D1 S1 INSERTED 2. D1 S1 RESERVED 1 1.a. D1 S1 RESERVED 2 1.b.")
	b.feed(1, "reserve.put 0 0 9 1.c.list-tubes.st", "D1")
	b.feed(3, "reserve.delete 1.use x.reserve.kick 1.", "D3")
	b.feed(2, "reserve.", "D2")
	// 1 was told nothing of what it said last: that is let go. 3 waited first; it deletes 1, and waits anew.
	b.hang(1, "S3 RESERVED 1 1.a. S2 RESERVED 2 1.b. D3 S3 DELETED. D3 S3 USING x. D3")
	b.conns(2, 3)
	b.held(0, 0, 8)
	if outs, err := b.h.Hang(1); err != api.ErrHouseConn || len(outs) != 0 {
		t.Errorf("Hang again: %s, %d", show(outs), err)
	}
	b.hang(3, "")
	b.hang(2, "")
	b.conns()
	wantInt(t, b.h.Shop().Seats, 0)
	wantInt(t, b.h.Shop().Sums.Ready, 1)
}

// P18.4: Feed is refused of who is not there, whatever comes.
func TestFeedRefused(t *testing.T) {
	b := newBench(t, five, 0, 1, 2)
	b.feed(1, "use a.us", "D1 S1 USING a.")
	b.feed(2, "quit.", "D2 H2")
	for _, conn := range append([]int{0, 2, 3, 63}, wrongConns...) {
		for _, s := range []string{"", "a", "stats.", "put 0 0 9 1.x.", "quit."} {
			before := tellsOf(b.h)
			if outs, err := b.h.Feed(conn, text(s)); err != api.ErrHouseConn || len(outs) != 0 {
				t.Errorf("Feed(%d, %q): %s, %d", conn, s, show(outs), err)
			}
			wantTells(t, b.h, before)
		}
	}
}

// P18.4: each kind of command comes to the engine, and is answered.
func TestCommands(t *testing.T) {
	b := newBench(t, wide, 7, 1, 2)
	for _, x := range []struct{ in, want string }{
		{"use mail.", "D1 S1 USING mail."},
		{"watch mail.", "D1 S1 WATCHING 2."},
		{"ignore default.", "D1 S1 WATCHING 1."},
		{"ignore mail.", "D1 S1 NOT_IGNORED."},
		{"put 5 0 60 3.a b.", "D1 S1 INSERTED 1."},
		{"put 6 0 60 0..", "D1 S1 INSERTED 2."},
		{"put 6 9 60 4....", "D1 S1 INSERTED 3."},
		{"peek-ready.", "D1 S1 FOUND 1 3.a b."},
		{"peek-delayed.", "D1 S1 FOUND 3 4...."},
		{"peek-buried.", "D1 S1 NOT_FOUND."},
		{"peek 2.", "D1 S1 FOUND 2 0.."},
		{"peek 4.", "D1 S1 NOT_FOUND."},
		{"reserve.", "D1 S1 RESERVED 1 3.a b."},
		{"reserve-with-timeout 5.", "D1 S1 RESERVED 2 0.."},
		{"reserve-with-timeout 0.", "D1 S1 TIMED_OUT."},
		{"reserve-job 3.", "D1 S1 RESERVED 3 4...."},
		{"reserve-job 3.", "D1 S1 NOT_FOUND."},
		{"touch 3.", "D1 S1 TOUCHED."},
		{"release 1 7 0.", "D1 S1 RELEASED."},
		{"bury 2 8.", "D1 S1 BURIED."},
		{"bury 3 8.", "D1 S1 BURIED."},
		{"kick-job 3.", "D1 S1 KICKED."},
		{"kick 9.", "D1 S1 KICKED 1."},
		{"delete 3.", "D1 S1 DELETED."},
		{"delete 3.", "D1 S1 NOT_FOUND."},
		{"pause-tube mail 3.", "D1 S1 PAUSED."},
		{"pause-tube none 3.", "D1 S1 NOT_FOUND."},
		{"list-tubes.", "D1 S1 OK 21.---\n- default\n- mail\n."},
		{"list-tubes-watched.", "D1 S1 OK 11.---\n- mail\n."},
		{"list-tube-used.", "D1 S1 USING mail."},
		{"stats-tube none.", "D1 S1 NOT_FOUND."},
		{"stats-job 3.", "D1 S1 NOT_FOUND."},
	} {
		b.feed(1, x.in, x.want)
		b.held(0, 0)
	}
	for _, x := range []struct{ in, with string }{{"stats.", "cmd-stats: 1\n"}, {"stats-tube mail.", "name: mail\n"}, {"stats-job 1.", "id: 1\n"}} {
		outs, err := b.h.Feed(1, text(x.in))
		if got, _ := spoken(t, outs); err != api.OK || !strings.HasPrefix(got, "D1 S1 OK ") || !strings.Contains(got, x.with) || len(outs) != 2 {
			t.Errorf("%s: %d, %s", x.in, err, got)
		}
	}
	done := [26]int{0, 3, 1, 1, 2, 2, 2, 1, 2, 1, 1, 2, 2, 1, 1, 1, 1, 1, 2, 2, 1, 1, 1, 1, 2, 0}
	if got := b.h.Shop().Done; got != done {
		t.Errorf("done were %v; want %v", got, done)
	}
	b.feed(1, "quit.", "D1 H1")
	if got := b.h.Shop().Done; got != done {
		t.Errorf("behind a quit done were %v; want %v", got, done)
	}
}

// P18.4: lines that are refused are answered without the engine, and change nothing there.
func TestRefusedLines(t *testing.T) {
	b := newBench(t, five, 0, 1)
	name := strings.Repeat("n", 200)
	for _, x := range []struct{ in, want string }{
		{"", "UNKNOWN_COMMAND"}, {" ", "UNKNOWN_COMMAND"}, {" stats", "UNKNOWN_COMMAND"}, {"Stats", "UNKNOWN_COMMAND"}, {"statsX", "UNKNOWN_COMMAND"}, {"\n", "UNKNOWN_COMMAND"},
		{"\r", "UNKNOWN_COMMAND"}, {"stats\r", "UNKNOWN_COMMAND"}, {"\nstats", "UNKNOWN_COMMAND"}, {"stats\nstats", "UNKNOWN_COMMAND"}, {"\x00", "UNKNOWN_COMMAND"}, {"\xff\xfe", "UNKNOWN_COMMAND"},
		{strings.Repeat("x", 222), "UNKNOWN_COMMAND"}, {strings.Repeat("x", 223), "BAD_FORMAT"}, {strings.Repeat("x", 224), "BAD_FORMAT"}, {strings.Repeat("x", 225), "BAD_FORMAT"}, {strings.Repeat("x", 5000), "BAD_FORMAT"},
		{strings.Repeat("\r", 300), "BAD_FORMAT"}, {strings.Repeat("\n", 300), "BAD_FORMAT"}, {strings.Repeat("\n", 222), "UNKNOWN_COMMAND"},
		{"put", "BAD_FORMAT"}, {"put ", "BAD_FORMAT"}, {"put 0 0 1", "BAD_FORMAT"}, {"put 0 0 1 1 1", "BAD_FORMAT"}, {"put 0 0 1 -1", "BAD_FORMAT"}, {"put 0 0 1 4294967296", "BAD_FORMAT"}, {"put  0 0 1 1", "BAD_FORMAT"},
		{"use -a", "BAD_FORMAT"}, {"use", "BAD_FORMAT"}, {"use a b", "BAD_FORMAT"}, {"use n" + name, "BAD_FORMAT"}, {"quit ", "BAD_FORMAT"}, {"quit now", "BAD_FORMAT"}, {"reserve ", "BAD_FORMAT"},
		{"delete", "BAD_FORMAT"}, {"delete x", "BAD_FORMAT"}, {"delete 4611686018427387904", "BAD_FORMAT"}, {"kick -1", "BAD_FORMAT"}, {"pause-tube n" + name + " 4294967295", "BAD_FORMAT"},
		{"reserve-with-timeout 4294967296", "BAD_FORMAT"}, {"stats-tube", "BAD_FORMAT"}, {"list-tubes x", "BAD_FORMAT"},
	} {
		before := tellsOf(b.h)
		outs, err := b.h.Feed(1, []byte(x.in+"\r\n"))
		if got, acts := spoken(t, outs); err != api.OK || got != "D1 S1 "+x.want+"." || acts != 0 {
			t.Errorf("%q: %d, %s; want %s", x.in, err, got, x.want)
		}
		wantTells(t, b.h, before)
	}
	b.feed(1, "pause-tube "+name+" 4294967295.", "D1 S1 NOT_FOUND.") // the longest right line
	b.feed(1, "delete 4611686018427387903.delete 0.", "D1 S1 NOT_FOUND. D1 S1 NOT_FOUND.")
}

// P18.4: puts whose body is too big, or without its end, change nothing; what comes behind them is read from the right byte on.
func TestRefusedBodies(t *testing.T) {
	for _, x := range []struct{ in, want string }{
		{"put 0 0 9 6\r\nabcdef\r\n", "JOB_TOO_BIG"},
		{"put 0 0 9 6\r\nquit\r\n\r\n", "JOB_TOO_BIG"},
		{"put 0 0 9 7\r\n123456789", "JOB_TOO_BIG"}, // the end of a big one is not looked at
		{"put 0 0 9 8\r\n\r\n\r\n\r\n\r\n\r\n", "JOB_TOO_BIG"},
		{"put 0 0 9 66000\r\n" + strings.Repeat("x", 66000) + "\r\n", "JOB_TOO_BIG"},
		{"put 0 0 9 0\r\nab", "EXPECTED_CRLF"},
		{"put 0 0 9 0\r\n\n\r", "EXPECTED_CRLF"},
		{"put 0 0 9 1\r\nabc", "EXPECTED_CRLF"},
		{"put 0 0 9 1\r\n\r\n\r", "EXPECTED_CRLF"},
		{"put 0 0 9 1\r\nx\r\r", "EXPECTED_CRLF"},
		{"put 0 0 9 1\r\nx\n\n", "EXPECTED_CRLF"},
		{"put 0 0 9 5\r\n1234567", "EXPECTED_CRLF"},
		{"put 0 0 9 5\r\nquit\r\n\r", "EXPECTED_CRLF"},
	} {
		b := newBench(t, five, 0, 1)
		before := tellsOf(b.h)
		b.feed(1, x.in[:len(x.in)-1], "")
		b.held(len(x.in) - 1)
		b.feed(1, x.in[len(x.in)-1:], "D1 S1 "+x.want+".")
		wantTells(t, b.h, before)
		b.feed(1, x.in+"put 0 0 9 5.right.", "D1 S1 "+x.want+". D1 S1 INSERTED 1.")
		b.h.Drain()
		b.feed(1, x.in+"put 0 0 9 5.right.", "D1 S1 "+x.want+". D1 S1 DRAINING.")
	}
}

// P18.4: a body may have any bytes, also such as look like commands, or like ends.
func TestBodies(t *testing.T) {
	b := newBench(t, api.Config{JobMax: 65535, Segment: 1 << 18, Quota: 1 << 20}, 0, 1, 2)
	all := make([]byte, 256)
	for i := range all {
		all[i] = byte(i)
	}
	for i, body := range []string{"", "\r", "\n", "\r\n", "\n\r", "quit\r\n", "put 0 0 9 1\r\nx\r\n", "\r\n\r\n\r\n", string(all), strings.Repeat("\r\n", 400), strings.Repeat("x", 65535)} {
		outs, err := b.h.Feed(1, []byte(fmt.Sprint("put 0 0 9 ", len(body), "\r\n", body, "\r\n")))
		if err != api.OK {
			t.Errorf("the body %s: %d", show(body), err)
		}
		b.done("put", outs, fmt.Sprint("D1 S1 INSERTED ", i+1, "."))
		outs, err = b.h.Feed(2, text("reserve."))
		want := fmt.Sprint("RESERVED ", i+1, " ", len(body), "\r\n", body, "\r\n")
		if err != api.OK || len(outs) != 2 || string(outs[1].Data) != want {
			t.Errorf("the body %s: %d, %s", show(body), err, show(words(t, outs)))
		}
		b.feed(2, fmt.Sprint("delete ", i+1, "."), "D2 S2 DELETED.")
	}
}

// P18.4: numbers are read as they are written: zeros ahead, a time to run of 0.
func TestPutNumbers(t *testing.T) {
	b := newBench(t, five, 7, 0)
	b.feed(0, "put 007 00 0 002.xy.put 4294967295 4294967295 4294967295 0..", "D0 S0 INSERTED 1. D0 S0 INSERTED 2.")
	want := []api.Job{
		{Id: 1, Pri: 7, TTR: 1, Born: 7, State: api.Ready, Holder: -1, Tube: "default", Body: []byte("xy")},
		{Id: 2, Pri: 1<<32 - 1, Delay: 1<<32 - 1, TTR: 1<<32 - 1, Born: 7, State: api.Delayed, Due: 7 + 1<<32 - 1, Holder: -1, Tube: "default"},
	}
	if got := ownJobs(b.h.Jobs()); !reflect.DeepEqual(got, ownJobs(want)) {
		t.Errorf("the jobs are %s; want %s", show(got), show(want))
	}
}

// P18.4, R10: the acts of a command stand behind its OutDone, and ahead of what is said; of lines that are refused there are none.
func TestActs(t *testing.T) {
	b := newBench(t, small, 0, 1, 2)
	b.feed(2, "reserve.delete 1.stats", "D2")
	outs, _ := b.h.Feed(1, text("use default.put 0 0 9 1.x.x.quit."))
	want := []string{"D1", "S1 USING default.", "D1", "A append", "A sync", "S1 INSERTED 1.", "S2 RESERVED 1 1.x.", "D2", "A append", "A sync", "A create", "A append", "A sync", "A remove", "S2 DELETED.", "D1", "S1 UNKNOWN_COMMAND.", "D1", "H1"}
	if got := words(t, outs); !slices.Equal(got, want) {
		t.Errorf("the outs are %q; want %q", got, want)
	}
}

// The table of what comes of a command: a quit hangs up first, and then the engine lets the connection leave.
func TestQuit(t *testing.T) {
	b := newBench(t, five, 0, 1, 2, 3)
	b.feed(1, "put 0 0 9 1.a.reserve.", "D1 S1 INSERTED 1. D1 S1 RESERVED 1 1.a.")
	b.feed(2, "reserve.quit.reserve.put 0 0 9 1.b.", "D2")
	b.feed(3, "reserve.delete 1.", "D3")
	b.held(0, 31, 10)
	b.feed(1, "quit.put 0 0 9 1.z.quit.", "D1 H1 S2 RESERVED 1 1.a. D2 H2 S3 RESERVED 1 1.a. D3 S3 DELETED.")
	b.conns(3)
	b.held(0, 0, 0)
	wantInt(t, b.h.Shop().Seats, 1)
	wantInt(t, b.h.Shop().Total, 1)
	if outs, err := b.h.Feed(1, text("stats.")); err != api.ErrHouseConn || len(outs) != 0 {
		t.Errorf("Feed behind a quit: %s, %d", show(outs), err)
	}
	if outs, err := b.h.Hang(1); err != api.ErrHouseConn || len(outs) != 0 {
		t.Errorf("Hang behind a quit: %s, %d", show(outs), err)
	}
	b.feed(3, "quit", "")
	b.feed(3, ".", "D3 H3")
	b.conns()
}

// P18.5: a tick is the engine's, and then it goes on; at the clock's end nothing happens.
func TestTick(t *testing.T) {
	b := newBench(t, five, 1<<40-2, 1, 2)
	b.feed(1, "reserve-with-timeout 1.reserve-with-timeout 1.use a.", "D1")
	b.feed(2, "put 0 1 9 1.x.reserve-with-timeout 1.list-tubes.", "D2 S2 INSERTED 1. D2")
	b.tick(1, "S1 RESERVED 1 1.x. S2 TIMED_OUT. D1 D2 S2 OK 14.---\n- default\n.")
	wantInt(t, b.h.Now(), 1<<40-1)
	b.held(7, 0)
	b.tick(1, "S1 TIMED_OUT. D1 S1 USING a.")
	wantInt(t, b.h.Now(), 1<<40)
	b.feed(2, "reserve-with-timeout 1.", "D2")
	before := tellsOf(b.h)
	b.tick(5, "")
	wantTells(t, b.h, before)
}

// P18.5: behind a Drain no job comes in, for good, also from who waits and comes later; nothing else changes.
func TestDrain(t *testing.T) {
	b := newBench(t, five, 0, 1, 2)
	b.feed(1, "put 0 0 9 1.x.put 0 0 9 1.", "D1 S1 INSERTED 1.")
	b.feed(2, "reserve.reserve.put 0 0 9 1.z.", "D2 S2 RESERVED 1 1.x. D2")
	before := tellsOf(b.h)
	b.h.Drain()
	before.shop.Draining = true
	wantTells(t, b.h, before)
	b.h.Drain()
	wantTells(t, b.h, before)
	b.feed(1, "y.put 0 0 9 6.abcdef.put 0 0 9 0.", "D1 S1 DRAINING. D1 S1 JOB_TOO_BIG.")
	b.feed(1, "..", "D1 S1 DRAINING. D1 S1 UNKNOWN_COMMAND.")
	b.tick(8, "S2 DEADLINE_SOON. D2 S2 DRAINING.")
	b.join(3)
	b.feed(3, "put 0 0 9 1.x.", "D3 S3 DRAINING.")
	wantInt(t, b.h.Shop().Total, 1)
}

// P18.6: how many bytes came that are of no command that was done.
func TestHeld(t *testing.T) {
	b := newBench(t, five, 0, 1)
	add := func(s string, want int) {
		t.Helper()
		if _, err := b.h.Feed(1, []byte(s)); err != api.OK || b.h.Held(1) != want {
			t.Errorf("behind %s: %d, %d; want %d", show(s), err, b.h.Held(1), want)
		}
	}
	add("", 0)
	add("u", 1)
	add("se a\r", 6)
	add("\nuse b\r\nu", 1)
	add("se c\r\n", 0)
	add(strings.Repeat("x", 223), 223) // a line that is too long
	add("x", 224)
	add(strings.Repeat("y", 1000), 1224)
	add("\r", 1225)
	add("\nab", 2)
	add("\r\n", 0)
	add("put 0 0 9 3\r\n", 13) // a body
	add("ab", 15)
	add("c\r", 17)
	add("\nxy", 2)
	add("\r\n", 0)
	add("put 0 0 9 3\r\nabcd", 17) // a body without its end
	add("eyz", 2)
	add("\r\n", 0)
	add("put 0 0 9 1000\r\n", 16) // a big one
	add(strings.Repeat("z", 600), 616)
	add(strings.Repeat("z", 401), 1017)
	add("zab", 2)
	add("\r\nput 0 0 9 4294967295\r\n"+strings.Repeat("z", 70000), 70022)
}

// P18.6: whole commands of one that waits count, each till it is done, whatever they are.
func TestHeldWaiting(t *testing.T) {
	parts := []string{"use a.", "reserve-with-timeout 1.", "PUT.", "reserve-with-timeout 1.", strings.Repeat("x", 400) + ".", "reserve-with-timeout 1.", "put 0 0 9 2.ab.", "ignore a.", "reserve-with-timeout 1.",
		"put 0 0 9 6.abcdef.", "reserve-with-timeout 1.", "put 0 0 9 1.abc", "reserve-with-timeout 1.", "us"}
	b := newBench(t, five, 0, 1, 2)
	whole := 0
	feed := func(s string) {
		b.h.Feed(1, text(s))
		whole += len(text(s))
	}
	b.feed(1, "reserve-with-timeout 1.", "D1")
	for _, s := range parts {
		feed(s)
		b.held(whole)
	}
	b.feed(2, "stats-tube zz.", "D2 S2 NOT_FOUND.")
	b.held(whole, 0)
	for _, n := range []int{2, 2, 2, 3, 2, 2} {
		b.h.Tick()
		for range n {
			whole -= len(text(parts[0]))
			parts = parts[1:]
		}
		b.held(whole, 0)
	}
	b.h.Tick()
	b.held(2, 0)
	wantInt(t, whole, 2)
}

// P18.6: what is told are the engine's words, and asking changes nothing.
func TestTold(t *testing.T) {
	b := newBench(t, five, 5, 1, 9, 4)
	b.feed(9, "use q.put 1 0 9 2.ab.put 2000 3 9 1.c.reserve.list-t", "D9 S9 USING q. D9 S9 INSERTED 1. D9 S9 INSERTED 2. D9")
	b.feed(4, "watch q.ignore default.reserve.pause-tube q 4.reser", "D4 S4 WATCHING 2. D4 S4 WATCHING 1. D4 S4 RESERVED 1 2.ab. D4 S4 PAUSED.")
	b.tick(2, "")
	e, _, _ := engine.New(five, 5)
	for _, conn := range []int{1, 9, 4} {
		e.Join(conn)
	}
	for _, x := range []struct {
		conn int
		c    api.Cmd
	}{
		{9, api.Cmd{Kind: api.CmdUse, Tube: "q"}},
		{9, api.Cmd{Kind: api.CmdPut, Pri: 1, TTR: 9, Number: 2, Body: []byte("ab")}},
		{9, api.Cmd{Kind: api.CmdPut, Pri: 2000, Delay: 3, TTR: 9, Number: 1, Body: []byte("c")}},
		{9, api.Cmd{Kind: api.CmdReserve}},
		{4, api.Cmd{Kind: api.CmdWatch, Tube: "q"}},
		{4, api.Cmd{Kind: api.CmdIgnore, Tube: "default"}},
		{4, api.Cmd{Kind: api.CmdReserve}},
		{4, api.Cmd{Kind: api.CmdPause, Tube: "q", Number: 4}},
	} {
		if _, err := e.Do(x.conn, x.c); err != api.OK {
			t.Fatalf("Do = %d", err)
		}
	}
	e.Tick()
	e.Tick()
	want := tells{conns: []int{1, 4, 9}, held: make([]int, 64), now: 7, jobs: ownJobs(e.Jobs()), tubes: e.Tubes(), shop: e.Shop()}
	want.held[9], want.held[4] = 6, 5
	wantTells(t, b.h, want)
	wantTells(t, b.h, want)
}
