package world

import (
	"fmt"
	"math"
	"reflect"
	"slices"
	"strings"
	"testing"

	"stint/api"
	"stint/disk"
	"stint/house"
	"stint/script"
)

// one is the put of the chapter's examples. Its outs: done, append, sync, said.
const one = "put 0 0 1 1.x."

// The chapter's first example.
func TestExampleSaid(t *testing.T) {
	b := newBench(t, mild)
	b.step(opens(1), "O1")
	b.step(feeds(1, one), "H1 put 0 0 1 1.x. D1 S1 INSERTED 1.")
	b.jobs("1rx")
	b.sizes("1:147/147")
}

// The chapter's second example: the frame of the job's whole record has 122 bytes behind the head's 25.
func TestExampleBreaks(t *testing.T) {
	const heard = "H1 put 0 0 1 1.x. "
	for _, x := range []struct {
		b      int
		keep   []int
		events string
		files  string
		there  bool
	}{
		{1, []int{200}, "Down0", "1:25/25", false},
		{2, []int{200}, "D1 Down0", "1:25/25", false},
		{3, []int{0}, "D1 Down0", "1:25/25", false},
		{3, nil, "D1 Down0", "1:25/25", false},
		{3, []int{200}, "D1 Down0", "1:102/102", false}, // 200 mod 123 is 77
		{3, []int{121}, "D1 Down0", "1:146/146", false},
		{3, []int{122}, "D1 Down0", "1:147/147", true},
		{3, []int{123}, "D1 Down0", "1:25/25", false},
		{3, []int{-123}, "D1 Down0", "1:147/147", true},
		{3, []int{0, 122, 122}, "D1 Down0", "1:25/25", false},
		{4, []int{0}, "D1 Down0", "1:147/147", true},
		{4, []int{7}, "D1 Down0", "1:147/147", true},
		{4, nil, "D1 Down0", "1:147/147", true},
		{5, nil, "D1 S1 INSERTED 1. Down0", "1:147/147", true},
		{6, nil, "D1 S1 INSERTED 1. Down0", "1:147/147", true},
		{99, []int{5}, "D1 S1 INSERTED 1. Down0", "1:147/147", true},
		{math.MaxInt, nil, "D1 S1 INSERTED 1. Down0", "1:147/147", true},
	} {
		b := newBench(t, mild, 1)
		b.step(broken(feeds(1, one), x.b, x.keep...), heard+x.events)
		b.sizes(x.files)
		if b.Up() || len(b.Conns()) != 0 || len(b.Jobs()) != 0 {
			t.Errorf("break %d: there is power", x.b)
		}
		b.step(starts, "Up0")
		jobs, files, said := "", "1:25/25", "D1 S1 INSERTED 1." // what is torn was cut off
		if x.there {
			jobs, files, said = "1rx", "1:147/147", "D1 S1 INSERTED 2."
		}
		b.jobs(jobs)
		b.sizes(files)
		b.step(opens(1), "O1")
		b.feed(1, one, said)
	}
}

// The chapter's third example.
func TestExampleDown(t *testing.T) {
	b := newBench(t, mild, 1)
	b.step(broken(feeds(1, one), 2), "H1 put 0 0 1 1.x. D1 Down0")
	b.refused(feeds(1, one), api.ErrWorldDown)
	b.step(ticks, "T1")
	b.step(starts, "Up1")
	b.refused(starts, api.ErrWorldUp)
}

// The play that chapter 19 has as its example, run.
func TestExampleOfScript(t *testing.T) {
	p, _, err := script.Parse("stint 100 256 4096\nopen 1\nfeed 1 =put\\s0\\s0\\s1\\s1\\r\\nx\\r\\n break 3 keep 0 7\ntick\nstart\ncrash keep 5\n")
	if err != api.OK {
		t.Fatalf("Parse = %d", err)
	}
	list, err := Run(p)
	if err != api.OK {
		t.Fatalf("Run = %d", err)
	}
	var got []string
	for _, events := range list {
		got = append(got, words(t, events))
	}
	if want := []string{"O1", "H1 put 0 0 1 1.x. D1 Down0", "T1", "Up1", "Down1"}; !slices.Equal(got, want) {
		t.Errorf("Run: %q; want %q", got, want)
	}
}

// The examples of the whole (1 to 6, 10), as a world tells them.
func TestExamplesOfTheWhole(t *testing.T) {
	b := newBench(t, wide, 1, 2)
	b.feed(1, "put 10 0 60 5.hello.", "D1 S1 INSERTED 1.")
	b.feed(2, "reserve.", "D2 S2 RESERVED 1 5.hello.")
	b.feed(2, "delete 1.", "D2 S2 DELETED.")
	b.feed(2, "reserve.", "D2")
	b.feed(1, "put 10 0 60 5.hello.", "D1 S1 INSERTED 2. S2 RESERVED 2 5.hello.")
	b.feed(2, "delete 2.reserve-with-timeout 2.", "D2 S2 DELETED. D2")
	b.step(ticks, "T1")
	b.step(ticks, "T2 S2 TIMED_OUT.")
	b.feed(2, "reserve-with-timeout 0.", "D2 S2 TIMED_OUT.")
	for now := 3; now <= 10; now++ {
		b.step(ticks, fmt.Sprint("T", now))
	}
	b.feed(1, "put 0 0 3 1.a.", "D1 S1 INSERTED 3.")
	b.feed(2, "reserve.reserve.", "D2 S2 RESERVED 3 1.a. D2")
	b.step(ticks, "T11")
	b.step(ticks, "T12 S2 DEADLINE_SOON.")
	b.step(ticks, "T13")
	b.feed(2, "touch 3.delete 3.", "D2 S2 NOT_FOUND. D2 S2 DELETED.")
	b.feed(1, "put 0 0 1 2.abc.", "D1 S1 EXPECTED_CRLF.")
	b.feed(1, ".", "D1 S1 UNKNOWN_COMMAND.")
	b.feed(1, "use a.ignore default.watch a.ignore default.", "D1 S1 USING a. D1 S1 NOT_IGNORED. D1 S1 WATCHING 2. D1 S1 WATCHING 1.")
	b.feed(1, "reserve.list-tube-used.", "D1")
	b.feed(2, "use a.put 0 0 9 1.b.", "D2 S2 USING a. D2 S2 INSERTED 4. S1 RESERVED 4 1.b. D1 S1 USING a.")
}

// The seventh example of the whole: who was buried first is kicked first, with a crash between or without one.
func TestBuriedBehindCrash(t *testing.T) {
	for _, crash := range []bool{false, true} {
		b := newBench(t, wide, 1)
		b.feed(1, "put 0 0 9 1.a.put 0 0 9 1.b.reserve.reserve.bury 2 0.bury 1 0.", "D1 S1 INSERTED 1. D1 S1 INSERTED 2. D1 S1 RESERVED 1 1.a. D1 S1 RESERVED 2 1.b. D1 S1 BURIED. D1 S1 BURIED.")
		if crash {
			b.again(1)
		}
		b.feed(1, "kick 1.", "D1 S1 KICKED 1.")
		b.jobs("1ba 2rb")
	}
}

// The ninth example of the whole: a full disk, and an empty one again.
func TestFullAndEmpty(t *testing.T) {
	b := newBench(t, small, 1)
	n := 0
	for ; n < 100; n++ {
		events := b.Step(feeds(1, one))
		if words(t, events) == "H1 put 0 0 1 1.x. D1 S1 OUT_OF_MEMORY." {
			break
		}
	}
	if n < 2 || n > 10 {
		t.Fatalf("%d jobs came in", n)
	}
	b.again(1)
	for id := 1; id <= n; id++ {
		b.feed(1, fmt.Sprint("delete ", id, "."), "D1 S1 DELETED.")
	}
	if files := b.Files(); len(files) != 1 || len(files[0].Data) != 25 {
		t.Errorf("behind the last delete the files are %s", show(files))
	}
}

// P20.1: what a new world tells: a house's that is new, and the files that its acts make.
func TestNew(t *testing.T) {
	for _, c := range []api.Config{mild, small, wide, {JobMax: 1, Segment: 128, Quota: 1024}, {JobMax: 65535, Segment: 1 << 20, Quota: 1 << 26}} {
		w, err := New(c)
		if w == nil || err != api.OK {
			t.Fatalf("New(%+v) = %d", c, err)
		}
		h, acts, _ := house.New(c, 0)
		d, _ := disk.New(c.Quota)
		for _, a := range acts {
			d.Do(a)
		}
		wantTells(t, "New", w, tells{up: true, files: ownFiles(d.Files()), tubes: h.Tubes(), shop: h.Shop()})
		wantInt(t, "JobMax", w.Shop().JobMax, c.JobMax)
		wantInt(t, "Segment", w.Shop().Segment, c.Segment)
	}
}

var wrongConfigs = []api.Config{{}, {JobMax: 0, Segment: 256, Quota: 1024}, {JobMax: 65536, Segment: 256, Quota: 1024}, {JobMax: 1, Segment: 127, Quota: 1024}, {JobMax: 1, Segment: 257, Quota: 1024}, {JobMax: 1, Segment: 128, Quota: 1023}, {JobMax: 1, Segment: 256, Quota: 1<<26 + 1}, {JobMax: 1, Segment: 1<<20 + 1, Quota: 1 << 26}, {JobMax: -1, Segment: -1, Quota: -1}}

// P20.1, P20.6, R2: configs that may not be.
func TestConfigRefused(t *testing.T) {
	for _, c := range wrongConfigs {
		if w, err := New(c); w != nil || err != api.ErrConfig {
			t.Errorf("New(%+v) = %v, %d", c, w, err)
		}
		for _, n := range []int{0, 1, 4000, 4001} {
			if list, err := Run(api.Play{Config: c, Steps: make([]api.Step, n)}); len(list) != 0 || err != api.ErrConfig {
				t.Errorf("Run(%+v, %d steps) = %d, %d", c, n, len(list), err)
			}
		}
	}
}

// P20.1: the quota is the disk's: so many bytes may be there and no more.
func TestQuota(t *testing.T) {
	for _, quota := range []int{1024, 4096, 1 << 26} {
		w, _ := New(api.Config{JobMax: 1, Segment: 128, Quota: quota})
		room := quota - 25
		if err := w.disk.Do(api.Act{Kind: api.ActAppend, File: 1, Data: make([]byte, room+1)}); err != api.ErrDiskFull {
			t.Errorf("of %d bytes: %d", quota, err)
		}
		if err := w.disk.Do(api.Act{Kind: api.ActAppend, File: 1, Data: make([]byte, room)}); err != api.OK {
			t.Errorf("of %d bytes: %d", quota, err)
		}
	}
}

// P20.3: a kind that is none, with power and without it, whatever else the step has.
func TestWrongKinds(t *testing.T) {
	b := newBench(t, mild, 1)
	b.feed(1, one, "D1 S1 INSERTED 1.")
	for range 2 {
		for _, kind := range wrongKinds {
			for _, conn := range []int{0, 1, 5, -1, math.MaxInt} {
				b.refused(api.Step{Kind: kind, Conn: conn, Data: text("stats."), Break: 1, Keep: []int{5}}, api.ErrWorldStep)
				b.refused(api.Step{Kind: kind, Conn: conn}, api.ErrWorldStep)
			}
		}
		b.Step(crashes())
	}
}

// P20.3: without power all is refused but ticks and starts, and that ahead of all else.
func TestRefusedWithoutPower(t *testing.T) {
	b := newBench(t, mild, 1)
	b.feed(1, one+"use a.", "D1 S1 INSERTED 1. D1 S1 USING a.")
	b.step(crashes(), "Down0")
	for _, conn := range append([]int{0, 1, 2, 63}, wrongConns...) {
		for _, s := range []api.Step{opens(conn), feeds(conn, "stats."), feeds(conn, ""), hangs(conn), {Kind: api.StDrain, Conn: conn}, {Kind: api.StCrash, Conn: conn, Keep: []int{1}}} {
			b.refused(s, api.ErrWorldDown)
			b.refused(broken(s, 1), api.ErrWorldDown)
		}
	}
}

// P20.3: which connections may come, and what a step has beside its Conn is not looked at.
func TestOpen(t *testing.T) {
	b := newBench(t, mild)
	for _, conn := range wrongConns {
		b.refused(opens(conn), api.ErrHouseConn)
		b.refused(broken(opens(conn), 1), api.ErrHouseConn)
	}
	for _, conn := range []int{63, 0, 7} {
		b.step(api.Step{Kind: api.StOpen, Conn: conn, Data: text("use a."), Break: 1, Keep: []int{1}}, fmt.Sprint("O", conn))
		b.refused(opens(conn), api.ErrHouseConn)
	}
	if got := b.Conns(); !slices.Equal(got, []int{0, 7, 63}) || !b.Up() {
		t.Errorf("Conns() = %v", got)
	}
	wantInt(t, "Seats", b.Shop().Seats, 3)
	b.step(crashes(), "Down0")
	b.step(starts, "Up0")
	if got := b.Conns(); len(got) != 0 {
		t.Errorf("behind a crash Conns() = %v", got)
	}
	b.step(opens(7), "O7")
}

// P20.3: who is not there is not heard.
func TestFeedRefused(t *testing.T) {
	b := newBench(t, mild, 1, 2)
	b.feed(2, "quit.", "D2 X2")
	for _, conn := range append([]int{0, 2, 3, 63}, wrongConns...) {
		for _, s := range []string{"", "a", one, "quit."} {
			b.refused(feeds(conn, s), api.ErrHouseConn)
			b.refused(broken(feeds(conn, s), 1, 9), api.ErrHouseConn)
		}
	}
}

// P20.3: what a feed tells: what was heard, byte by byte, and then what comes of it, to whomever.
func TestFeed(t *testing.T) {
	b := newBench(t, mild, 1, 2)
	b.feed(1, "", "")
	b.feed(1, "put 0 0 9 ", "")
	b.feed(1, "1.", "")
	b.feed(2, "reserve.delete 1.quit.stats.", "D2")
	b.feed(1, "y.PUT.", "D1 S1 INSERTED 1. S2 RESERVED 1 1.y. D2 S2 DELETED. D2 X2 D1 S1 UNKNOWN_COMMAND.")
	b.feed(1, "\x00\xff\r\n\n.", "D1 S1 UNKNOWN_COMMAND. D1 S1 UNKNOWN_COMMAND.")
	if got := b.Conns(); !slices.Equal(got, []int{1}) {
		t.Errorf("Conns() = %v", got)
	}
	b.feed(1, "quit.put 0 0 9 1.z.", "D1 X1")
	b.jobs("")
	b.refused(feeds(1, "stats."), api.ErrHouseConn)
}

// P20.3: who hangs up is gone, with what it held.
func TestHang(t *testing.T) {
	b := newBench(t, mild, 1, 2, 3)
	for _, conn := range append([]int{0, 4, 63}, wrongConns...) {
		b.refused(hangs(conn), api.ErrHouseConn)
		b.refused(broken(hangs(conn), 1), api.ErrHouseConn)
	}
	b.feed(1, "put 0 0 9 1.x.reserve.put 0", "D1 S1 INSERTED 1. D1 S1 RESERVED 1 1.x.")
	b.feed(2, "reserve.bury 1 0.", "D2")
	b.step(api.Step{Kind: api.StHang, Conn: 1, Data: text("stats."), Keep: []int{3}}, "X1 S2 RESERVED 1 1.x. D2 S2 BURIED.")
	b.refused(hangs(1), api.ErrHouseConn)
	b.jobs("1bx")
	b.step(hangs(3), "X3")
	b.step(hangs(2), "X2")
	if got := b.Conns(); len(got) != 0 {
		t.Errorf("Conns() = %v", got)
	}
}

// P20.2, P20.3: a hanging up with each break. Its outs: said, done, append, sync, said.
func TestHangBreaks(t *testing.T) {
	begin := newBench(t, mild, 1, 2)
	begin.feed(1, "put 0 0 9 1.x.reserve.", "D1 S1 INSERTED 1. D1 S1 RESERVED 1 1.x.")
	begin.feed(2, "reserve.bury 1 0.", "D2")
	begin.step(ticks, "T1")
	for n, x := range []struct{ events, jobs string }{
		{"", ""},
		{"X1 Down1", "1rx"},
		{"X1 S2 RESERVED 1 1.x. Down1", "1rx"},
		{"X1 S2 RESERVED 1 1.x. D2 Down1", "1rx"},
		{"X1 S2 RESERVED 1 1.x. D2 Down1", "1rx"}, // the append, of which nothing is kept
		{"X1 S2 RESERVED 1 1.x. D2 Down1", "1bx"},
		{"X1 S2 RESERVED 1 1.x. D2 S2 BURIED. Down1", "1bx"},
		{"X1 S2 RESERVED 1 1.x. D2 S2 BURIED. Down1", "1bx"},
	} {
		if n == 0 {
			continue
		}
		b := begin.clone()
		b.step(broken(hangs(1), n), x.events)
		b.step(starts, "Up1")
		b.jobs(x.jobs)
	}
}

// P20.3: the clock, with power and without it.
func TestTick(t *testing.T) {
	b := newBench(t, mild, 1)
	b.feed(1, "put 0 3 9 1.x.reserve-with-timeout 2.list-tube-used.", "D1 S1 INSERTED 1. D1")
	b.step(api.Step{Kind: api.StTick, Conn: 99, Data: text("stats.")}, "T1")
	b.step(broken(ticks, 0, 5), "T2 S1 TIMED_OUT. D1 S1 USING default.")
	b.step(broken(ticks, -1, 5), "T3")
	b.jobs("1rx")
	b.step(broken(ticks, 1), "T4 Down4")
	wantInt(t, "Now()", b.Now(), 4)
	for now := 5; now < 9; now++ {
		b.step(broken(ticks, 1, 1), fmt.Sprint("T", now))
		wantInt(t, "Now()", b.Now(), now)
	}
	b.step(starts, "Up8")
	wantInt(t, "Start", b.Shop().Start, 8)
	wantInt(t, "the house's clock", b.Shop().Now, 8)
	b.step(ticks, "T9")
	wantInt(t, "the house's clock", b.Shop().Now, 9)
	b.step(crashes(), "Down9")
}

// P20.2, P20.3: a tick with each break. Its outs: said, done, append, sync, said.
func TestTickBreaks(t *testing.T) {
	begin := newBench(t, mild, 1)
	begin.feed(1, "reserve-with-timeout 1.put 0 9 9 1.x.", "D1")
	for n, x := range []struct{ events, jobs string }{
		{"T1 S1 TIMED_OUT. D1 S1 INSERTED 1.", "1dx"},
		{"T1 Down1", ""},
		{"T1 S1 TIMED_OUT. Down1", ""},
		{"T1 S1 TIMED_OUT. D1 Down1", ""},
		{"T1 S1 TIMED_OUT. D1 Down1", ""},
		{"T1 S1 TIMED_OUT. D1 Down1", "1dx"},
		{"T1 S1 TIMED_OUT. D1 S1 INSERTED 1. Down1", "1dx"},
		{"T1 S1 TIMED_OUT. D1 S1 INSERTED 1. Down1", "1dx"},
	} {
		b := begin.clone()
		b.step(broken(ticks, n), x.events)
		if n > 0 {
			b.step(starts, "Up1")
		}
		b.jobs(x.jobs)
	}
}

// atClock is a world whose clock was set; its house, if there is power, began at that.
func atClock(t *testing.T, now int, up bool) *bench {
	t.Helper()
	b := newBench(t, mild)
	b.step(crashes(), "Down0")
	b.now = now
	if up {
		b.step(starts, fmt.Sprint("Up", now))
	}
	return b
}

// P20.3, R8: the clock stands at MaxNow.
func TestMaxNow(t *testing.T) {
	const most = 1 << 40
	for _, up := range []bool{true, false} {
		b := atClock(t, most-2, up)
		b.step(ticks, fmt.Sprint("T", most-1))
		for range 3 {
			b.step(ticks, fmt.Sprint("T", most))
			wantInt(t, "Now()", b.Now(), most)
		}
		if !up {
			b.step(starts, fmt.Sprint("Up", most))
		}
		b.step(ticks, fmt.Sprint("T", most))
		b.step(opens(1), "O1")
		b.feed(1, "put 0 1 1 1.x.reserve-with-timeout 1.", "D1 S1 INSERTED 1. D1")
		b.step(ticks, fmt.Sprint("T", most))
		b.step(broken(ticks, 1), fmt.Sprint("T", most, " Down", most))
		b.step(starts, fmt.Sprint("Up", most))
		b.jobs("1dx")
	}
}

// P20.3: a drain lets no job come in, till the power goes.
func TestDrain(t *testing.T) {
	b := newBench(t, mild, 1)
	b.step(api.Step{Kind: api.StDrain, Conn: 99, Data: text("stats."), Break: 1, Keep: []int{1}}, "Drains")
	if !b.Up() || !b.Shop().Draining {
		t.Error("it is not draining")
	}
	b.feed(1, one, "D1 S1 DRAINING.")
	b.step(drains, "Drains")
	b.again(1)
	if b.Shop().Draining {
		t.Error("it is draining behind a crash")
	}
	b.feed(1, one, "D1 S1 INSERTED 1.")
}

// P20.3: a crash takes connections, waits, pauses, reservations and counters, and no job that was answered; Break, Conn and Data are not looked at.
func TestCrash(t *testing.T) {
	b := newBench(t, mild, 1, 2)
	b.feed(1, "put 0 0 9 1.a.put 0 5 9 1.b.put 0 2 9 1.c.put 0 0 9 1.d.reserve.reserve.bury 4 7.pause-tube default 9.", "D1 S1 INSERTED 1. D1 S1 INSERTED 2. D1 S1 INSERTED 3. D1 S1 INSERTED 4. D1 S1 RESERVED 1 1.a. D1 S1 RESERVED 4 1.d. D1 S1 BURIED. D1 S1 PAUSED.")
	b.feed(2, "reserve.", "D2")
	b.jobs("1Ra 2db 3dc 4bd")
	b.step(api.Step{Kind: api.StCrash, Conn: 99, Data: text("stats."), Break: 7, Keep: []int{-1, math.MinInt, math.MaxInt}}, "Down0")
	for now := 1; now <= 3; now++ {
		b.step(ticks, fmt.Sprint("T", now))
	}
	b.step(starts, "Up3")
	b.jobs("1ra 2db 3rc 4bd")
	if shop := b.Shop(); len(b.Conns()) != 0 || shop.Waiting != 0 || shop.Opened != 0 || shop.Done != [26]int{} || shop.Total != 4 {
		t.Errorf("behind a crash it is %s", show(shop))
	}
	if tubes := b.Tubes(); len(tubes) != 1 || tubes[0].Pause != 0 || tubes[0].Sums != (api.Sums{Ready: 2, Delayed: 1, Buried: 1, Urgent: 2}) {
		t.Errorf("behind a crash the tubes are %s", show(tubes))
	}
}

// P20.2, P20.3: what a crash keeps is the disk's to say, by the step's Keep. (Bytes that are not safe are laid there by hand, as none are between steps.)
func TestCrashKeeps(t *testing.T) {
	for _, x := range []struct {
		keep  []int
		files string
	}{{nil, "1:25/25 2:0/0"}, {[]int{1}, "1:26/26 2:0/0"}, {[]int{0, 2}, "1:25/25 2:2/2"}, {[]int{4, -4}, "1:25/25 2:3/3"}, {[]int{3, 3, 3}, "1:28/28 2:3/3"}} {
		b := newBench(t, mild)
		for _, a := range []api.Act{{Kind: api.ActCreate, File: 2}, {Kind: api.ActAppend, File: 1, Data: []byte("abc")}, {Kind: api.ActAppend, File: 2, Data: []byte("def")}} {
			b.disk.Do(a)
		}
		b.sizes("1:28/25 2:3/0")
		b.step(crashes(x.keep...), "Down0")
		b.sizes(x.files)
	}
}

// P20.3: the power goes, and comes, as often as may be, and nothing is lost.
func TestCrashesInARow(t *testing.T) {
	b := newBench(t, mild)
	for n := 1; n <= 5; n++ {
		b.step(opens(1), "O1")
		b.feed(1, one, fmt.Sprint("D1 S1 INSERTED ", n, "."))
		for range n {
			b.step(crashes(9, 9, 9), "Down0")
			b.refused(crashes(), api.ErrWorldDown)
			b.step(broken(starts, n), "Down0")
			b.step(starts, "Up0")
			b.refused(broken(starts, 1), api.ErrWorldUp)
		}
		wantInt(t, "jobs", len(b.Jobs()), n)
	}
}

// torn is a world without power, whose second file has a part of its head.
func torn(t *testing.T) *bench {
	t.Helper()
	b := newBench(t, mild, 1)
	b.feed(1, one+one, "D1 S1 INSERTED 1. D1 S1 INSERTED 2.")
	b.sizes("1:269/269")
	b.step(broken(feeds(1, one), 4, 0, 10), "H1 put 0 0 1 1.x. D1 Down0") // done, create, append of the head
	b.sizes("1:269/269 2:10/10")
	return b
}

// P20.2, P20.3: a start with each break. Its outs: cut, append, sync.
func TestStartBreaks(t *testing.T) {
	for _, x := range []struct {
		b     int
		keep  []int
		files string
	}{
		{1, []int{9, 9}, "1:269/269 2:10/10"},
		{2, []int{9, 9}, "1:269/269 2:0/0"},
		{3, nil, "1:269/269 2:0/0"},
		{3, []int{9}, "1:269/269 2:0/0"},
		{3, []int{9, 9}, "1:269/269 2:9/9"},
		{3, []int{0, 25}, "1:269/269 2:25/25"},
		{3, []int{0, 26}, "1:269/269 2:0/0"},
		{4, []int{0, 3}, "1:269/269 2:25/25"},
		{5, nil, "1:269/269 2:25/25"},
		{math.MaxInt, nil, "1:269/269 2:25/25"},
	} {
		b := torn(t)
		b.step(broken(starts, x.b, x.keep...), "Down0")
		b.sizes(x.files)
		if b.Up() || b.Shop() != (api.Shop{}) {
			t.Errorf("break %d: there is power", x.b)
		}
		b.step(ticks, "T1")
		b.step(starts, "Up1")
		b.sizes("1:269/269 2:25/25")
		b.jobs("1rx 2rx")
		b.step(opens(1), "O1")
		b.feed(1, one, "D1 S1 INSERTED 3.")
	}
}

// P20.3: a break that is 0 or below does not break, and what a start has beside its Break and Keep is not looked at.
func TestNoBreak(t *testing.T) {
	for _, n := range []int{0, -1, -2, -99, math.MinInt} {
		b := torn(t)
		b.step(broken(api.Step{Kind: api.StStart, Conn: 99, Data: text("stats.")}, n, 1, 2), "Up0")
		b.sizes("1:269/269 2:25/25")
		b.step(opens(1), "O1")
		b.step(broken(feeds(1, one), n, 1, 2), "H1 put 0 0 1 1.x. D1 S1 INSERTED 3.")
		b.step(broken(ticks, n, 1), "T1")
		b.step(broken(hangs(1), n, 1), "X1")
		if !b.Up() {
			t.Errorf("break %d: there is no power", n)
		}
	}
}

// P20.3: the error of the house is handed on, and nothing has changed then. (A clock below 0 is nothing that a world comes to.)
func TestStartRefused(t *testing.T) {
	b := atClock(t, -1, false)
	b.refused(starts, api.ErrEngineNow)
	b.refused(broken(starts, 1), api.ErrEngineNow)
}

// P20.4: a world whose disk refuses (this one has none of its files) goes on as if it did not.
func TestDiskRefuses(t *testing.T) {
	b := newBench(t, mild, 1)
	b.disk, _ = disk.New(1024)
	b.feed(1, one+"delete 1.", "D1 S1 INSERTED 1. D1 S1 DELETED.")
	b.feed(1, one, "D1 S1 INSERTED 2.")
	b.jobs("2rx")
}

// P20.5: what is told without power, and that telling changes nothing.
func TestTold(t *testing.T) {
	x := newPair(t, mild)
	for _, s := range []api.Step{opens(3), feeds(3, "use mail.put 5 0 9 2.ab.put 5 4 9 2.cd.reserve-job 1.watch mail."), ticks} {
		x.step(s)
	}
	if !x.w.Up() || x.w.Now() != 1 || len(x.w.Jobs()) != 2 || len(x.w.Tubes()) != 2 || !slices.Equal(x.w.Conns(), []int{3}) || x.w.Shop().Total != 2 {
		t.Errorf("with power it tells %s", show(tellsOf(x.w)))
	}
	before := tellsOf(x.w)
	for range 3 {
		wantTells(t, "again", x.w, before)
	}
	x.step(crashes())
	wantTells(t, "without power", x.w, tells{now: 1, files: before.files})
	x.step(starts)
	after := tellsOf(x.w)
	if !after.up || len(after.jobs) != 2 || len(after.conns) != 0 || !reflect.DeepEqual(after.files, before.files) {
		t.Errorf("with power again it tells %s", show(after))
	}
}

// P20.6: a run is a new world's steps.
func TestRun(t *testing.T) {
	steps := []api.Step{
		opens(1), feeds(1, one+one), {Kind: 9, Conn: 5}, broken(feeds(1, one), 5, 0, 7), ticks, feeds(1, one), broken(starts, 1), starts, opens(1), feeds(1, one+"quit."), hangs(1), drains, crashes(1), crashes(2),
	}
	for n := range len(steps) + 1 {
		w, _ := New(mild)
		list, err := Run(api.Play{Config: mild, Steps: steps[:n]})
		if err != api.OK || len(list) != n {
			t.Fatalf("Run of %d steps: %d, %d", n, len(list), err)
		}
		for i, events := range list {
			if want := w.Step(steps[i]); len(want) == 0 || !sameEvents(events, want) {
				t.Errorf("the step %d: %s; want %s", i, show(words(t, events)), show(words(t, want)))
			}
		}
	}
}

// P20.6: MaxSteps steps are run, and no more, whatever they are.
func TestRunMany(t *testing.T) {
	steps := slices.Repeat([]api.Step{ticks}, 4001)
	list, err := Run(api.Play{Config: mild, Steps: steps[:4000]})
	if err != api.OK || len(list) != 4000 || words(t, list[3999]) != "T4000" {
		t.Errorf("Run of 4000 steps: %d, %d", len(list), err)
	}
	for _, play := range []api.Play{{Config: mild, Steps: steps}, {Config: mild, Steps: make([]api.Step, 4001)}, {Config: small, Steps: make([]api.Step, 100000)}} {
		if list, err := Run(play); len(list) != 0 || err != api.ErrScriptMany {
			t.Errorf("Run of %d steps: %d, %d", len(play.Steps), len(list), err)
		}
	}
	for _, none := range [][]api.Step{nil, {}} {
		if list, err := Run(api.Play{Config: mild, Steps: none}); err != api.OK || len(list) != 0 {
			t.Errorf("Run of no steps: %d, %d", len(list), err)
		}
	}
}

// P20.8: one stream with quits, waits and refused lines, cut at each place; pieces behind the hanging up are refused.
func TestEachCut(t *testing.T) {
	begin := newBench(t, mild, 1, 2)
	begin.feed(2, "watch b.ignore default.reserve.use c.list-tube-used.", "D2 S2 WATCHING 2. D2 S2 WATCHING 1. D2")
	all := text("put 0 0 9 2.ab.reserve.use -.x.put 0 0 9 101." + strings.Repeat("b", 101) + ".use b.put 0 0 9 0...delete 1.quit.stats.")
	whole := begin.Clone()
	want := whole.Step(api.Step{Kind: api.StFeed, Conn: 1, Data: all})
	if got := words(t, want[1:]); got != "D1 S1 INSERTED 1. D1 S1 RESERVED 1 2.ab. D1 S1 BAD_FORMAT. D1 S1 UNKNOWN_COMMAND. D1 S1 JOB_TOO_BIG. D1 S1 USING b. D1 S1 INSERTED 2. S2 RESERVED 2 0.. D2 S2 USING c. D2 S2 USING c. D1 S1 UNKNOWN_COMMAND. D1 S1 DELETED. D1 X1" {
		t.Fatalf("whole: %s", got)
	}
	for i := range len(all) + 1 {
		for k := i; k <= len(all); k += 1 + (i+k)%11 {
			w := begin.Clone()
			var got []api.Event
			gone := false
			for _, piece := range [][]byte{all[:i], all[i:k], all[k:]} {
				events := w.Step(api.Step{Kind: api.StFeed, Conn: 1, Data: piece})
				if gone {
					if words(t, events) != "Refused1 180" {
						t.Fatalf("cut at %d and %d: a piece behind the quit: %s", i, k, words(t, events))
					}
					continue
				}
				if !sameEvents(events[:1], []api.Event{{Kind: api.EvHeard, Conn: 1, Data: piece}}) {
					t.Fatalf("cut at %d and %d: heard was %s", i, k, show(events[0]))
				}
				got = append(got, events[1:]...)
				gone = len(w.Conns()) == 1
			}
			if !sameEvents(got, want[1:]) || !gone {
				t.Fatalf("cut at %d and %d: %s", i, k, show(words(t, got)))
			}
			wantTells(t, fmt.Sprint("cut at ", i, " and ", k), w, tellsOf(whole))
		}
	}
}
