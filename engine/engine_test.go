package engine

import (
	"math"
	"reflect"
	"slices"
	"strconv"
	"strings"
	"testing"

	"stint/api"
	"stint/ledger"
)

// The chapter's examples, one by one.
func TestExamplePutAndRelease(t *testing.T) {
	b := newBench(t, wide, 10, 1, 2)
	b.all(1, cmd("put 5 0 60", "a"), "append 1", "sync 1", "1: INSERTED 1")
	b.all(2, cmd("reserve"), "2: RESERVED 1 1 a")
	b.all(1, cmd("delete 1"), "1: NOT_FOUND")
	b.all(2, cmd("release 1 7 3"), "append 1", "sync 1", "2: RELEASED")
	b.wantJob(api.Job{Id: 1, Pri: 7, Delay: 3, TTR: 60, Born: 10, State: api.Delayed, Due: 13, Holder: -1, Counts: api.Counts{Reserves: 1, Releases: 1}, Tube: "default", Body: []byte("a")})
	b.tick(2)
	b.wantStates("1d")
	b.tick(1)
	wantInt(t, b.e.Now(), 13)
	b.wantJob(api.Job{Id: 1, Pri: 7, Delay: 3, TTR: 60, Born: 10, State: api.Ready, Holder: -1, Counts: api.Counts{Reserves: 1, Releases: 1}, Tube: "default", Body: []byte("a")})
}

func TestExampleSoon(t *testing.T) {
	b := newBench(t, wide, 10, 1, 2)
	b.all(2, cmd("reserve"))
	b.all(1, cmd("put 0 0 1", "x"), "append 1", "sync 1", "1: INSERTED 1", "2: RESERVED 1 1 x")
	b.all(2, cmd("reserve"), "2: DEADLINE_SOON")
	b.tick(1)
	b.wantJob(api.Job{Id: 1, TTR: 1, Born: 10, State: api.Ready, Holder: -1, Counts: api.Counts{Reserves: 1, Timeouts: 1}, Tube: "default", Body: []byte("x")})
}

func TestExampleKick(t *testing.T) {
	b := newBench(t, wide, 10, 1, 2)
	b.says(1, cmd("put 1 0 9", "a"), "1: INSERTED 1")
	b.says(1, cmd("put 0 0 9", "b"), "1: INSERTED 2")
	b.says(2, cmd("reserve"), "2: RESERVED 2 1 b")
	b.says(2, cmd("bury 2 4"), "2: BURIED")
	b.says(1, cmd("kick 5"), "1: KICKED 1")
	b.says(1, cmd("peek-ready"), "1: FOUND 1 1 a")
}

func TestExamplePause(t *testing.T) {
	b := newBench(t, wide, 10, 1, 2)
	b.says(1, cmd("pause-tube default 2"), "1: PAUSED")
	b.says(1, cmd("put 0 0 9", "a"), "1: INSERTED 1")
	b.says(2, cmd("reserve-with-timeout 5"))
	b.tick(2, "2: RESERVED 1 1 a")
}

func TestExampleWatch(t *testing.T) {
	b := newBench(t, wide, 10, 1, 2)
	b.all(1, cmd("watch a"), "1: WATCHING 2")
	b.all(1, cmd("ignore default"), "1: WATCHING 1")
	b.all(1, cmd("ignore a"), "1: NOT_IGNORED")
	b.all(1, cmd("ignore zz"), "1: WATCHING 1")
}

// Clocks at which no engine begins.
var wrongNows = []int{math.MinInt, math.MinInt + 5, -1 << 40, -2, -1, 1<<40 + 1, 1<<40 + 2, 1 << 41, 1 << 62, math.MaxInt}

// Configs that may not be.
var wrongConfigs = []api.Config{{}, {JobMax: 0, Segment: 256, Quota: 1024}, {JobMax: 65536, Segment: 256, Quota: 1024}, {JobMax: 1, Segment: 127, Quota: 1024}, {JobMax: 1, Segment: 257, Quota: 1024}, {JobMax: 1, Segment: 1<<20 + 1, Quota: 1 << 26}, {JobMax: 1, Segment: 256, Quota: 1 << 27}, {JobMax: -1, Segment: -1, Quota: -1}}

// P17.1: what a new engine tells, and what has to be done for it.
func TestNew(t *testing.T) {
	for _, c := range []api.Config{wide, small, {JobMax: 1, Segment: 128, Quota: 1024}, {JobMax: 65535, Segment: 1 << 20, Quota: 1 << 26}} {
		for _, now := range []int{0, 1, 10, 1<<40 - 1, 1 << 40} {
			e, acts, err := New(c, now)
			_, want, _ := ledger.New(c)
			if err != api.OK || e == nil || !reflect.DeepEqual(acts, want) {
				t.Fatalf("New(%+v, %d): %d, %s", c, now, err, show(acts))
			}
			wantTells(t, e, tells{now: now, tubes: []api.Tube{{Name: "default"}}, shop: api.Shop{
				Now: now, Start: now, Tubes: 1, JobMax: c.JobMax, Segment: c.Segment, Oldest: 1, Newest: 1, Room: c.Quota - 50,
			}})
		}
	}
}

// P17.1, P17.2, R2: what is refused, and which error comes first.
func TestBeginRefused(t *testing.T) {
	files := filesOf(t, small, api.Stored{Pri: 1, TTR: 9, State: api.Ready, Tube: "a"})
	alike := append(slices.Clone(files), files...)
	refused := func(want api.Errno) func(e *Engine, acts []api.Act, err api.Errno) {
		return func(e *Engine, acts []api.Act, err api.Errno) {
			t.Helper()
			if e != nil || len(acts) != 0 || err != want {
				t.Errorf("%v, %s, %d; want nil, none, %d", e, show(acts), err, want)
			}
		}
	}
	for _, now := range append([]int{0, 1 << 40}, wrongNows...) {
		for _, c := range wrongConfigs {
			refused(api.ErrConfig)(New(c, now))
			refused(api.ErrConfig)(Open(c, now, files))
			refused(api.ErrConfig)(Open(c, now, alike))
		}
	}
	for _, now := range wrongNows {
		refused(api.ErrEngineNow)(New(small, now))
		refused(api.ErrEngineNow)(Open(small, now, nil))
		refused(api.ErrEngineNow)(Open(small, now, files))
		refused(api.ErrEngineNow)(Open(small, now, alike))
	}
	for _, now := range []int{0, 7, 1 << 40} {
		refused(api.ErrArg)(Open(small, now, alike))
		refused(api.ErrArg)(Open(small, now, []api.File{{Num: 0}}))
		refused(api.ErrArg)(Open(small, now, []api.File{{Num: 1<<40 + 1}}))
	}
}

// P17.2: the jobs that are stored, each as it stands at the clock; what came, of each tube and in all.
func TestOpen(t *testing.T) {
	counts := api.Counts{Reserves: 1, Timeouts: 2, Releases: 3, Buries: 4, Kicks: 5}
	list := []api.Stored{
		{Pri: 5, Delay: 1, TTR: 9, Born: 3, State: api.Ready, Counts: counts, Tube: "a", Body: []byte("1")},
		{Pri: 6, Delay: 2, TTR: 8, Born: 4, State: api.Delayed, Due: 21, Counts: counts, Tube: "a", Body: []byte("2")},
		{Pri: 7, Delay: 3, TTR: 7, Born: 5, State: api.Delayed, Due: 20, Counts: counts, Tube: "b", Body: []byte("3")},
		{Pri: 8, Delay: 4, TTR: 6, Born: 6, State: api.Delayed, Due: 19, Tube: "b"},
		{Pri: 9, Delay: 5, TTR: 5, Born: 7, State: api.Buried, Order: 7, Counts: counts, Tube: "a", Body: []byte("5")},
		{Pri: 2000, TTR: 4, Born: 1 << 40, State: api.Buried, Order: 3, Tube: "default"},
		{Pri: 2000, TTR: 4, Born: 99, State: api.Delayed, Due: 1<<40 + 1<<32 - 1, Tube: "default"},
	}
	b := opened(t, wide, 20, list...)
	want := tells{now: 20, tubes: []api.Tube{
		{Name: "a", Sums: api.Sums{Ready: 1, Delayed: 1, Buried: 1, Urgent: 1}, Total: 3},
		{Name: "b", Sums: api.Sums{Ready: 2, Urgent: 2}, Total: 2},
		{Name: "default", Sums: api.Sums{Buried: 1, Delayed: 1}, Total: 2},
	}}
	states := []int{api.Ready, api.Delayed, api.Ready, api.Ready, api.Buried, api.Buried, api.Delayed}
	for i, s := range list {
		s.Id = i + 1
		want.stored = append(want.stored, s)
		j := api.Job{Id: s.Id, Pri: s.Pri, Delay: s.Delay, TTR: s.TTR, Born: s.Born, State: states[i], Order: s.Order, Holder: -1, Counts: s.Counts, Tube: s.Tube, Body: s.Body}
		if states[i] == api.Delayed {
			j.Due = s.Due
		}
		want.jobs = append(want.jobs, j)
	}
	shop := b.e.Shop()
	want.shop = api.Shop{
		Now: 20, Start: 20, Sums: api.Sums{Ready: 3, Delayed: 2, Buried: 2, Urgent: 3}, Total: 7, Tubes: 3,
		JobMax: 65535, Segment: 4096, Oldest: 1, Newest: 1, Room: shop.Room,
	}
	wantTells(t, b.e, want)
	b.tick(1)
	b.wantStates("1r 2r 3r 4r 5b 6b 7d")
}

// P17.2: the acts are the ledger's, and the files in any order.
func TestOpenActs(t *testing.T) {
	b := newBench(t, small, 0, 1)
	b.noRoom(1)
	files := b.d.Files()
	if len(files) < 2 {
		t.Fatalf("the test has %d files", len(files))
	}
	last := &files[len(files)-1]
	last.Data = append(last.Data, "torn"...)
	slices.Reverse(files)
	e, acts, err := Open(small, 0, files)
	l, want, _ := ledger.Open(small, files)
	if err != api.OK || len(want) != 1 || !reflect.DeepEqual(acts, want) {
		t.Fatalf("Open: %d, %s; want %s", err, show(acts), show(want))
	}
	if !reflect.DeepEqual(ownStored(e.Stored()), ownStored(l.Jobs())) {
		t.Errorf("it stores %s; want %s", show(e.Stored()), show(l.Jobs()))
	}
	oldest, newest := l.Files()
	if s := e.Shop(); s.Oldest != oldest || s.Newest != newest || s.Room != l.Room() || s.Written != 0 || s.Moved != 0 {
		t.Errorf("it tells %+v", s)
	}
	if got, want := toldActs(acts), "cut 2"; got != want {
		t.Errorf("the acts are %s; want %s", got, want)
	}
}

func toldActs(acts []api.Act) string {
	var list []string
	for _, a := range acts {
		list = append(list, toldAct(a))
	}
	return strings.Join(list, ", ")
}

// P17.2: at a clock that is behind, jobs are delayed once more; at one that is far ahead, none is.
func TestOpenAtOtherClocks(t *testing.T) {
	b := newBench(t, wide, 100, 1)
	b.do(1, "put 1 5 9", "put 1 0 9")
	b.tick(5)
	b.wantStates("1r 2r")
	for now, want := range map[int]string{0: "1d 2r", 104: "1d 2r", 105: "1r 2r", 106: "1r 2r", 1 << 40: "1r 2r"} {
		o := b.reopen(now)
		o.wantStates(want)
		wantInt(t, o.e.Now(), now)
	}
}

// P17.3: a connection comes.
func TestJoin(t *testing.T) {
	b := newBench(t, wide, 10)
	for _, conn := range []int{5, 0, 63, 31} {
		b.join(conn)
		before := tellsOf(b.e)
		wantErr(t, b.e.Join(conn), api.ErrEngineSeat)
		wantTells(t, b.e, before)
	}
	before := tellsOf(b.e)
	for _, conn := range wrongConns {
		wantErr(t, b.e.Join(conn), api.ErrEngineSeat)
	}
	wantTells(t, b.e, before)
	var want []api.Seat
	for _, conn := range []int{0, 5, 31, 63} {
		want = append(want, api.Seat{Num: conn, Used: "default", Watched: []string{"default"}})
	}
	if got := b.e.Seats(); !reflect.DeepEqual(got, want) {
		t.Errorf("Seats() = %+v; want %+v", got, want)
	}
	b.wantTube(api.Tube{Name: "default", Using: 4, Watching: 4})
	if s := b.e.Shop(); s.Seats != 4 || s.Opened != 4 || s.Waiting != 0 || s.Producers != 0 || s.Workers != 0 {
		t.Errorf("Shop() = %+v", s)
	}
	b.leave(5)
	b.join(5)
	if s := b.e.Shop(); s.Seats != 4 || s.Opened != 5 {
		t.Errorf("Shop() = %+v", s)
	}
}

// P17.3: a connection goes; what it held is ready, with no count changed, and nothing written.
func TestLeave(t *testing.T) {
	b := newBench(t, wide, 10, 1, 2, 3)
	b.do(1, "use a", "put 5 0 9", "put 4 2 9", "put 3 0 9")
	b.do(2, "watch a", "reserve", "reserve")
	b.do(3, "reserve-job 2", "use u", "watch w")
	b.wantTubes("a", "default", "u", "w")
	stored := b.e.Stored()
	one, three := b.job(1), b.job(3)
	b.leave(2)
	one.State, one.Due, one.Holder, three.State, three.Due, three.Holder = api.Ready, 0, -1, api.Ready, 0, -1
	b.wantJob(one)
	b.wantJob(three)
	b.wantStates("1r 2R 3r")
	if !reflect.DeepEqual(b.e.Stored(), stored) {
		t.Errorf("they are stored otherwise: %s", show(b.e.Stored()))
	}
	b.leave(3)
	b.wantStates("1r 2r 3r")
	b.wantTubes("a", "default")
	wantInt(t, len(b.e.Seats()), 1)
	for _, conn := range append([]int{2, 3, 0}, wrongConns...) {
		before := tellsOf(b.e)
		outs, err := b.e.Leave(conn)
		if len(outs) != 0 || err != api.ErrEngineSeat {
			t.Errorf("Leave(%d): %s, %d", conn, show(outs), err)
		}
		wantTells(t, b.e, before)
	}
	b.join(2)
	if got, want := b.seat(2), (api.Seat{Num: 2, Used: "default", Watched: []string{"default"}}); !reflect.DeepEqual(got, want) {
		t.Errorf("who came again is %+v; want %+v", got, want)
	}
}

// P17.3: who waits and goes is not handed a job any more; then others are handed what it held, in their order.
func TestLeaveMatches(t *testing.T) {
	b := newBench(t, wide, 10, 1, 2, 3, 4, 5)
	b.do(1, "put 7 0 9", "put 5 0 9", "put 6 0 9", "reserve", "reserve", "reserve")
	b.do(5, "reserve")
	b.do(3, "reserve")
	b.do(2, "reserve")
	b.do(4, "watch x", "ignore default", "reserve")
	b.do(1, "use x")
	b.leave(5)
	b.leave(1, "3: RESERVED 2 0 ", "2: RESERVED 3 0 ")
	b.wantStates("1r 2R 3R")
	wantInt(t, b.e.Shop().Waiting, 1)
	b.wantTubes("default", "x")
	b.leave(4)
	b.wantTubes("default")
	wantInt(t, b.e.Shop().Waiting, 0)
}

// P17.3: the pause of a tube that stays there for a job's sake stays too, and what comes back is not handed out.
func TestLeavePaused(t *testing.T) {
	b := newBench(t, wide, 10, 1, 2)
	b.do(1, "use a", "put 1 0 99", "watch a", "reserve", "pause-tube a 5")
	b.do(2, "watch a", "reserve")
	b.leave(1)
	b.wantStates("1r")
	b.wantTube(api.Tube{Name: "a", Sums: api.Sums{Ready: 1, Urgent: 1}, Watching: 1, Waiting: 1, Total: 1, Pauses: 1, Pause: 5, Until: 15})
	b.tick(5, "2: RESERVED 1 0 ")
}

// Commands of all kinds that may be done.
func eachKind() []api.Cmd {
	var list []api.Cmd
	for _, line := range []string{
		"put 1 2 3", "use t", "reserve", "reserve-with-timeout 1", "reserve-job 1", "delete 1", "release 1 2 3", "bury 1 2", "touch 1",
		"watch t", "ignore t", "peek 1", "peek-ready", "peek-delayed", "peek-buried", "kick 1", "kick-job 1", "stats-job 1",
		"stats-tube default", "stats", "list-tubes", "list-tube-used", "list-tubes-watched", "pause-tube default 1",
	} {
		list = append(list, cmd(line))
	}
	return list
}

// P17.4: what is refused, and which error comes first; nothing has changed then.
func TestDoRefused(t *testing.T) {
	b := newBench(t, small, 10, 1, 2)
	b.do(2, "reserve")
	before := tellsOf(b.e)
	refused := func(conn int, c api.Cmd, want api.Errno) {
		t.Helper()
		outs, err := b.e.Do(conn, c)
		if len(outs) != 0 || err != want {
			t.Errorf("Do(%d, %s): %s, %d; want none, %d", conn, show(c), show(outs), err, want)
		}
		wantTells(t, b.e, before)
	}
	wrong := []api.Cmd{{}, {Kind: -1}, {Kind: 26}, cmd("quit"), cmd("put 1 0 9", strings.Repeat("x", 101)), {Kind: api.CmdPut, TTR: 1, Number: 1}, {Kind: api.CmdPut},
		{Kind: api.CmdPut, TTR: 1, Number: 65536, Body: make([]byte, 65536)}, {Kind: api.CmdDelete, Id: 1, Pri: 1}, {Kind: api.CmdDelete, Id: -1}, {Kind: api.CmdDelete, Id: math.MaxInt},
		{Kind: api.CmdUse}, {Kind: api.CmdUse, Tube: "-a"}, {Kind: api.CmdWatch, Tube: strings.Repeat("a", 201)}, {Kind: api.CmdReserveWithin, Number: -1}, {Kind: api.CmdReserveWithin, Number: 1 << 32},
		{Kind: api.CmdPause, Tube: "default", Number: 1 << 32}, {Kind: api.CmdStats, Body: []byte("x")}, {Kind: api.CmdRelease, Pri: 1 << 32}, {Kind: api.CmdKick, Number: math.MinInt}}
	for _, c := range append(eachKind(), wrong...) {
		for _, conn := range append([]int{0, 3, 63}, wrongConns...) {
			refused(conn, c, api.ErrEngineSeat)
		}
		refused(2, c, api.ErrEngineWait)
	}
	for _, c := range wrong {
		refused(1, c, api.ErrEngineCmd)
	}
}

// P17.4: a put of as many bytes as the config allows is done, one of more is not, whatever the quota is.
func TestJobMax(t *testing.T) {
	for _, most := range []int{1, 2, 99, 100, 300, 65534, 65535} {
		c := api.Config{JobMax: most, Segment: 1024, Quota: 1 << 20}
		b := newBench(t, c, 0, 1)
		b.says(1, cmd("put 0 0 1"), "1: INSERTED 1")
		b.says(1, cmd("put 0 0 1", strings.Repeat("x", most)), "1: INSERTED 2")
		wantInt(t, len(b.job(2).Body), most)
		outs, err := b.e.Do(1, api.Cmd{Kind: api.CmdPut, TTR: 1, Number: most + 1, Body: make([]byte, most+1)})
		if len(outs) != 0 || err != api.ErrEngineCmd {
			t.Errorf("a put of one more: %s, %d", show(outs), err)
		}
		wantInt(t, b.e.Shop().Done[api.CmdPut], 2)
	}
}

// P17.4: each kind is counted, also where it is told that there is no such thing.
func TestDone(t *testing.T) {
	b := newBench(t, wide, 10, 1, 2)
	var want [26]int
	for i, c := range eachKind() {
		for range i + 1 {
			if b.e.Waits(1) {
				b.leave(1)
				b.join(1)
			}
			outs, err := b.e.Do(1, c)
			if err != api.OK {
				t.Fatalf("Do(%s) = %d", show(c), err)
			}
			b.done(outs)
			want[c.Kind]++
			if got := b.e.Shop().Done; got != want {
				t.Errorf("done was %v; want %v", got, want)
			}
		}
	}
	wantInt(t, want[24], 24)
}

// P17.5: a put, ready and delayed.
func TestPut(t *testing.T) {
	b := newBench(t, wide, 10, 1)
	b.all(1, cmd("put 5 0 60", "hello"), "append 1", "sync 1", "1: INSERTED 1")
	b.wantJob(api.Job{Id: 1, Pri: 5, TTR: 60, Born: 10, State: api.Ready, Holder: -1, Tube: "default", Body: []byte("hello")})
	b.wantStored(api.Stored{Id: 1, Pri: 5, TTR: 60, Born: 10, State: api.Ready, Tube: "default", Body: []byte("hello")})
	b.do(1, "use a")
	b.tick(3)
	b.all(1, cmd("put 4294967295 1 4294967295"), "append 1", "sync 1", "1: INSERTED 2")
	b.wantJob(api.Job{Id: 2, Pri: 1<<32 - 1, Delay: 1, TTR: 1<<32 - 1, Born: 13, State: api.Delayed, Due: 14, Holder: -1, Tube: "a"})
	b.wantStored(api.Stored{Id: 2, Pri: 1<<32 - 1, Delay: 1, TTR: 1<<32 - 1, Born: 13, State: api.Delayed, Due: 14, Tube: "a"})
	b.says(1, cmd("put 0 4294967295 1"), "1: INSERTED 3")
	wantInt(t, b.job(3).Due, 13+1<<32-1)
	b.wantTube(api.Tube{Name: "default", Sums: api.Sums{Ready: 1, Urgent: 1}, Watching: 1, Total: 1})
	b.wantTube(api.Tube{Name: "a", Sums: api.Sums{Delayed: 2}, Using: 1, Total: 2})
	if s := b.e.Shop(); s.Total != 3 || s.Producers != 1 || s.Workers != 0 || s.Written != 3 || s.Done[api.CmdPut] != 3 {
		t.Errorf("Shop() = %+v", s)
	}
	if s := b.seat(1); !s.Puts || s.Takes {
		t.Errorf("the connection is %+v", s)
	}
}

// P17.5, P17.23: while it drains no job comes; who puts is noted.
func TestPutDraining(t *testing.T) {
	b := newBench(t, wide, 10, 1, 2)
	b.do(1, "put 1 0 9")
	b.e.Drain()
	wantInt(t, one(b.e.Shop().Draining), 1)
	b.refused(1, cmd("put 1 0 9", "x"), "DRAINING")
	b.refused(2, cmd("put 1 5 9"), "DRAINING")
	if s := b.seat(2); !s.Puts || b.e.Shop().Producers != 2 {
		t.Errorf("the connection is %+v", s)
	}
	b.e.Drain()
	b.refused(2, cmd("put 1 5 9"), "DRAINING")
	b.says(2, cmd("reserve"), "2: RESERVED 1 0 ")
	b.says(2, cmd("release 1 0 0"), "2: RELEASED")
	b.says(2, cmd("delete 1"), "2: DELETED")
	o := b.reopen(10, 1)
	o.says(1, cmd("put 1 0 9"), "1: INSERTED 2")
}

// P17.5, P17.23: where there is no room nothing changes; nor is an id lost.
func TestPutNoRoom(t *testing.T) {
	b := newBench(t, small, 10, 1, 2)
	b.do(1, "put 1 0 9", "put 1 0 9", "put 1 0 9")
	b.refused(1, cmd("put 1 0 9", strings.Repeat("x", 100)), "OUT_OF_MEMORY")
	b.refused(2, cmd("put 1 7 9", strings.Repeat("x", 100)), "OUT_OF_MEMORY")
	wantInt(t, b.e.Shop().Producers, 2)
	b.do(1, "delete 1", "delete 2", "delete 3")
	b.says(2, cmd("put 1 7 9", strings.Repeat("x", 100)), "2: INSERTED 4")
}

// P17.5, R8: no id above the greatest one is given.
func TestPutLastIds(t *testing.T) {
	b := newBench(t, wide, 10, 1)
	files := b.d.Files()
	files[0].Data = headOf(t, 1, 1<<40)
	e, acts, err := Open(wide, 10, files)
	if err != api.OK || len(acts) != 0 {
		t.Fatalf("Open: %d, %s", err, show(acts))
	}
	b.e = e
	wantErr(t, e.Join(1), api.OK)
	outs, _ := e.Do(1, cmd("put 1 0 9"))
	if got := toldAll(t, outs); got[len(got)-1] != "1: INSERTED 1099511627776" {
		t.Errorf("the last id: %s", got)
	}
	outs, _ = e.Do(1, cmd("put 1 0 9"))
	if got := toldAll(t, outs); !slices.Equal(got, []string{"1: OUT_OF_MEMORY"}) {
		t.Errorf("one more: %s", got)
	}
	outs, _ = e.Do(1, cmd("delete 1099511627776"))
	if got := toldAll(t, outs); got[len(got)-1] != "1: DELETED" {
		t.Errorf("the last id goes: %s", got)
	}
	outs, _ = e.Do(1, cmd("put 1 0 9"))
	if got := toldAll(t, outs); !slices.Equal(got, []string{"1: OUT_OF_MEMORY"}) {
		t.Errorf("one more: %s", got)
	}
}

// P17.5: a put is handed out at once, to who waits longest of those that watch its tube.
func TestPutMatches(t *testing.T) {
	b := newBench(t, wide, 10, 1, 2, 3, 4)
	b.do(4, "watch a", "ignore default", "reserve")
	b.do(3, "reserve")
	b.do(2, "watch a", "reserve-with-timeout 9")
	b.all(1, cmd("put 1 0 9", "x"), "append 1", "sync 1", "1: INSERTED 1", "3: RESERVED 1 1 x")
	b.all(1, cmd("put 1 1 9", "x"), "append 1", "sync 1", "1: INSERTED 2")
	b.do(1, "use a")
	b.all(1, cmd("put 1 0 9", "y"), "append 1", "sync 1", "1: INSERTED 3", "4: RESERVED 3 1 y")
	b.all(1, cmd("put 1 0 9", "z"), "append 1", "sync 1", "1: INSERTED 4", "2: RESERVED 4 1 z")
	b.all(1, cmd("put 1 0 9", "w"), "append 1", "sync 1", "1: INSERTED 5")
	b.wantStates("1R 2d 3R 4R 5r")
	b.wantJob(api.Job{Id: 4, Pri: 1, TTR: 9, Born: 10, State: api.Reserved, Due: 19, Holder: 2, Counts: api.Counts{Reserves: 1}, Tube: "a", Body: []byte("z")})
	b.wantStored(api.Stored{Id: 4, Pri: 1, TTR: 9, Born: 10, State: api.Ready, Tube: "a", Body: []byte("z")})
	if s := b.seat(2); s.Waits || s.Until != 0 || !s.Takes {
		t.Errorf("who was told is %+v", s)
	}
}

// P17.6: of all tubes that it watches the job that ranks first: by priority, then by id; not of those that are paused.
func TestReserve(t *testing.T) {
	b := newBench(t, wide, 10, 1, 2)
	for _, line := range []string{"use a", "put 5 0 9", "put 3 0 9", "use b", "put 3 0 9", "put 2 1 9", "use c", "put 0 0 9", "use default", "put 4 0 9", "use p", "put 0 0 9", "pause-tube p 4"} {
		b.do(1, line)
	}
	b.do(2, "watch b", "watch a", "watch p")
	b.all(2, cmd("reserve"), "2: RESERVED 2 0 ")
	b.wantJob(api.Job{Id: 2, Pri: 3, TTR: 9, Born: 10, State: api.Reserved, Due: 19, Holder: 2, Counts: api.Counts{Reserves: 1}, Tube: "a"})
	b.wantStored(api.Stored{Id: 2, Pri: 3, TTR: 9, Born: 10, State: api.Ready, Tube: "a"})
	b.all(2, cmd("reserve-with-timeout 0"), "2: RESERVED 3 0 ")
	b.all(2, cmd("reserve-with-timeout 8"), "2: RESERVED 6 0 ")
	b.tick(2)
	b.all(2, cmd("reserve"), "2: RESERVED 4 0 ")
	wantInt(t, b.job(4).Due, 21)
	b.all(2, cmd("reserve"), "2: RESERVED 1 0 ")
	b.all(2, cmd("reserve-with-timeout 0"), "2: TIMED_OUT")
	b.tick(2)
	b.all(2, cmd("reserve-with-timeout 0"), "2: RESERVED 7 0 ")
	b.wantStates("1R 2R 3R 4R 5r 6R 7R")
	if s := b.e.Shop(); s.Workers != 1 || s.Producers != 1 || s.Waiting != 0 || s.Done[api.CmdReserve] != 3 || s.Done[api.CmdReserveWithin] != 4 {
		t.Errorf("Shop() = %+v", s)
	}
}

// P17.6: soon is told ahead of a timeout and of a wait, but not where there is a job.
func TestReserveSoon(t *testing.T) {
	b := newBench(t, wide, 10, 1, 2)
	b.do(1, "put 1 0 2", "put 1 0 3")
	b.do(2, "reserve")
	b.all(2, cmd("reserve"), "2: RESERVED 2 0 ")
	b.refused(2, cmd("reserve-with-timeout 0"), "TIMED_OUT")
	b.tick(1)
	b.refused(2, cmd("reserve"), "DEADLINE_SOON")
	b.refused(2, cmd("reserve-with-timeout 0"), "DEADLINE_SOON")
	b.refused(2, cmd("reserve-with-timeout 5"), "DEADLINE_SOON")
	b.refused(1, cmd("reserve-with-timeout 0"), "TIMED_OUT")
	b.do(1, "put 1 0 9")
	b.all(2, cmd("reserve"), "2: RESERVED 3 0 ")
	b.refused(2, cmd("reserve"), "DEADLINE_SOON")
	b.do(2, "touch 1")
	b.all(2, cmd("reserve"))
	wantInt(t, one(b.e.Waits(2)), 1)
}

// P17.6: a wait, with and without an end.
func TestReserveWaits(t *testing.T) {
	b := newBench(t, wide, 10, 1, 2, 3)
	b.all(3, cmd("reserve-with-timeout 4294967295"))
	b.all(1, cmd("reserve"))
	b.all(2, cmd("reserve-with-timeout 1"))
	for conn, until := range map[int]int{1: -1, 2: 11, 3: 10 + 1<<32 - 1} {
		if s := b.seat(conn); !s.Waits || s.Until != until || !s.Takes || s.Puts {
			t.Errorf("who waits is %+v; want until %d", s, until)
		}
	}
	b.wantTube(api.Tube{Name: "default", Using: 3, Watching: 3, Waiting: 3})
	if s := b.e.Shop(); s.Waiting != 3 || s.Workers != 3 {
		t.Errorf("Shop() = %+v", s)
	}
	b.tick(1, "2: TIMED_OUT")
	b.tick(20)
	wantInt(t, b.e.Shop().Waiting, 2)
}

// P17.7: any job that nobody holds can be reserved by its id; what is not ready is stored as ready first.
func TestReserveJob(t *testing.T) {
	b := newBench(t, wide, 10, 1, 2)
	b.do(1, "use a", "put 5 0 60", "put 6 9 60", "put 7 0 60", "watch a", "reserve-job 3", "bury 3 8")
	b.all(2, cmd("reserve-job 1"), "2: RESERVED 1 0 ")
	b.wantJob(api.Job{Id: 1, Pri: 5, TTR: 60, Born: 10, State: api.Reserved, Due: 70, Holder: 2, Counts: api.Counts{Reserves: 1}, Tube: "a"})
	b.wantStored(api.Stored{Id: 1, Pri: 5, TTR: 60, Born: 10, State: api.Ready, Tube: "a"})
	b.all(2, cmd("reserve-job 2"), "append 1", "sync 1", "2: RESERVED 2 0 ")
	b.wantJob(api.Job{Id: 2, Pri: 6, Delay: 9, TTR: 60, Born: 10, State: api.Reserved, Due: 70, Holder: 2, Counts: api.Counts{Reserves: 1}, Tube: "a"})
	b.wantStored(api.Stored{Id: 2, Pri: 6, Delay: 9, TTR: 60, Born: 10, State: api.Ready, Counts: api.Counts{Reserves: 1}, Tube: "a"})
	b.wantStored(api.Stored{Id: 3, Pri: 8, TTR: 60, Born: 10, State: api.Buried, Order: 1, Counts: api.Counts{Reserves: 1, Buries: 1}, Tube: "a"})
	b.all(2, cmd("reserve-job 3"), "append 1", "sync 1", "2: RESERVED 3 0 ")
	b.wantJob(api.Job{Id: 3, Pri: 8, TTR: 60, Born: 10, State: api.Reserved, Due: 70, Holder: 2, Counts: api.Counts{Reserves: 2, Buries: 1}, Tube: "a"})
	b.wantStored(api.Stored{Id: 3, Pri: 8, TTR: 60, Born: 10, State: api.Ready, Counts: api.Counts{Reserves: 2, Buries: 1}, Tube: "a"})
	for _, id := range []string{"0", "1", "2", "3", "4", "4611686018427387903"} {
		b.refused(1, cmd("reserve-job "+id), "NOT_FOUND")
		b.refused(2, cmd("reserve-job "+id), "NOT_FOUND")
	}
	b.join(3)
	b.refused(3, cmd("reserve-job 9"), "NOT_FOUND")
	if s := b.seat(3); !s.Takes || s.Puts {
		t.Errorf("the connection is %+v", s)
	}
}

// P17.7: a job of a paused tube, and of one that it does not watch, can be had by its id; a job that is delayed no longer is ready.
func TestReserveJobAnywhere(t *testing.T) {
	b := newBench(t, wide, 10, 1, 2)
	b.do(1, "use a", "put 5 0 60", "put 5 1 60", "pause-tube a 9")
	b.tick(1)
	b.all(2, cmd("reserve-job 1"), "2: RESERVED 1 0 ")
	b.all(2, cmd("reserve-job 2"), "2: RESERVED 2 0 ")
	b.wantStored(api.Stored{Id: 2, Pri: 5, Delay: 1, TTR: 60, Born: 10, State: api.Delayed, Due: 11, Tube: "a"})
}

// P17.7, P17.23: where there is no room what is not ready stays as it was.
func TestReserveJobNoRoom(t *testing.T) {
	b := newBench(t, small, 10, 1, 2)
	b.do(1, "put 0 90 60", "put 0 0 60", "reserve-job 2", "bury 2 8")
	b.noRoom(1)
	b.refused(2, cmd("reserve-job 1"), "OUT_OF_MEMORY")
	b.refused(2, cmd("reserve-job 2"), "OUT_OF_MEMORY")
	b.says(2, cmd("reserve-job 3"), "2: RESERVED 3 60 "+strings.Repeat("f", 60))
}

// P17.8: who may delete a job, in each state; what is counted.
func TestDelete(t *testing.T) {
	b := newBench(t, wide, 10, 1, 2)
	b.do(1, "use a", "put 5 0 60", "put 6 9 60", "put 7 0 60", "put 8 0 60", "put 9 0 60", "reserve-job 3", "bury 3 8", "reserve-job 4")
	b.refused(2, cmd("delete 4"), "NOT_FOUND")
	b.refused(2, cmd("delete 0"), "NOT_FOUND")
	b.refused(2, cmd("delete 6"), "NOT_FOUND")
	b.refused(2, cmd("delete 4611686018427387903"), "NOT_FOUND")
	for i, id := range []string{"1", "2", "3"} {
		b.all(2, cmd("delete "+id), "append 1", "sync 1", "2: DELETED")
		wantInt(t, b.tube("a").Deletes, i+1)
		b.refused(2, cmd("delete "+id), "NOT_FOUND")
	}
	b.all(1, cmd("delete 4"), "append 1", "sync 1", "1: DELETED")
	b.wantTube(api.Tube{Name: "a", Sums: api.Sums{Ready: 1, Urgent: 1}, Using: 1, Total: 5, Deletes: 4})
	wantInt(t, len(b.e.Stored()), 1)
	b.all(1, cmd("delete 5"), "append 1", "sync 1", "create 2", "append 2", "sync 2", "remove 1", "1: DELETED")
	b.wantTube(api.Tube{Name: "a", Using: 1, Total: 5, Deletes: 5})
	wantInt(t, b.e.Shop().Total, 5)
	wantInt(t, len(b.e.Jobs())+len(b.e.Stored()), 0)
}

// P17.9: a release, ready and delayed.
func TestRelease(t *testing.T) {
	b := newBench(t, wide, 10, 1, 2)
	b.do(1, "put 5 3 60")
	b.tick(3)
	b.do(2, "reserve")
	b.refused(1, cmd("release 1 0 0"), "NOT_FOUND")
	b.refused(2, cmd("release 2 0 0"), "NOT_FOUND")
	b.all(2, cmd("release 1 7 0"), "append 1", "sync 1", "2: RELEASED")
	b.wantJob(api.Job{Id: 1, Pri: 7, TTR: 60, Born: 10, State: api.Ready, Holder: -1, Counts: api.Counts{Reserves: 1, Releases: 1}, Tube: "default"})
	b.wantStored(api.Stored{Id: 1, Pri: 7, TTR: 60, Born: 10, State: api.Ready, Counts: api.Counts{Reserves: 1, Releases: 1}, Tube: "default"})
	b.refused(2, cmd("release 1 0 0"), "NOT_FOUND")
	b.do(1, "reserve")
	b.refused(2, cmd("release 1 0 0"), "NOT_FOUND")
	b.all(1, cmd("release 1 4294967295 4294967295"), "append 1", "sync 1", "1: RELEASED")
	due := 13 + 1<<32 - 1
	b.wantJob(api.Job{Id: 1, Pri: 1<<32 - 1, Delay: 1<<32 - 1, TTR: 60, Born: 10, State: api.Delayed, Due: due, Holder: -1, Counts: api.Counts{Reserves: 2, Releases: 2}, Tube: "default"})
	b.wantStored(api.Stored{Id: 1, Pri: 1<<32 - 1, Delay: 1<<32 - 1, TTR: 60, Born: 10, State: api.Delayed, Due: due, Counts: api.Counts{Reserves: 2, Releases: 2}, Tube: "default"})
	b.refused(1, cmd("release 1 0 0"), "NOT_FOUND")
	b.refused(1, cmd("release 4611686018427387903 0 0"), "NOT_FOUND")
}

// P17.9: what is released is handed to who waits; not if it is delayed.
func TestReleaseMatches(t *testing.T) {
	b := newBench(t, wide, 10, 1, 2, 3)
	b.do(1, "put 5 0 60", "reserve")
	b.do(3, "reserve")
	b.do(2, "reserve")
	b.all(1, cmd("release 1 7 0"), "append 1", "sync 1", "1: RELEASED", "3: RESERVED 1 0 ")
	b.all(3, cmd("release 1 7 1"), "append 1", "sync 1", "3: RELEASED")
	b.tick(1, "2: RESERVED 1 0 ")
	b.all(2, cmd("release 1 7 0"), "append 1", "sync 1", "2: RELEASED")
	b.wantStates("1r")
}

// P17.9: where there is no room it is buried instead: with the new priority, one more Buries, the old Delay.
func TestReleaseNoRoom(t *testing.T) {
	b := newBench(t, small, 10, 1, 2)
	b.do(1, "put 0 1 60", "put 0 0 60", "reserve-job 2", "bury 2 8")
	b.tick(1)
	b.do(1, "reserve-job 1")
	b.noRoom(1)
	room := b.e.Shop().Room
	b.says(1, cmd("release 1 7 3"), "1: BURIED")
	b.wantJob(api.Job{Id: 1, Pri: 7, Delay: 1, TTR: 60, Born: 10, State: api.Buried, Order: 2, Holder: -1, Counts: api.Counts{Reserves: 1, Buries: 1}, Tube: "default"})
	b.wantStored(api.Stored{Id: 1, Pri: 7, Delay: 1, TTR: 60, Born: 10, State: api.Buried, Order: 2, Counts: api.Counts{Reserves: 1, Buries: 1}, Tube: "default"})
	if b.e.Shop().Room < room {
		t.Errorf("the room was %d, and is %d", room, b.e.Shop().Room)
	}
	b.refused(1, cmd("release 1 7 3"), "NOT_FOUND")
	wantReopened(b)
}

// P17.10: a bury.
func TestBury(t *testing.T) {
	b := newBench(t, wide, 10, 1, 2)
	b.do(1, "put 5 1 60", "use a", "put 5 0 60", "put 5 0 60")
	b.tick(1)
	for _, id := range []string{"0", "1", "2", "4", "4611686018427387903"} {
		b.refused(2, cmd("bury "+id+" 1"), "NOT_FOUND")
	}
	b.do(2, "reserve-job 2", "reserve-job 1", "reserve-job 3")
	b.refused(1, cmd("bury 1 1"), "NOT_FOUND")
	b.all(2, cmd("bury 2 4294967295"), "append 1", "sync 1", "2: BURIED")
	b.all(2, cmd("bury 1 0"), "append 1", "sync 1", "2: BURIED")
	b.wantJob(api.Job{Id: 2, Pri: 1<<32 - 1, TTR: 60, Born: 10, State: api.Buried, Order: 1, Holder: -1, Counts: api.Counts{Reserves: 1, Buries: 1}, Tube: "a"})
	b.wantJob(api.Job{Id: 1, Pri: 0, Delay: 1, TTR: 60, Born: 10, State: api.Buried, Order: 2, Holder: -1, Counts: api.Counts{Reserves: 1, Buries: 1}, Tube: "default"})
	b.wantStored(api.Stored{Id: 1, Pri: 0, Delay: 1, TTR: 60, Born: 10, State: api.Buried, Order: 2, Counts: api.Counts{Reserves: 1, Buries: 1}, Tube: "default"})
	b.refused(2, cmd("bury 2 1"), "NOT_FOUND")
	b.says(2, cmd("bury 3 1"), "2: BURIED")
	wantInt(t, b.job(3).Order, 3)
}

// 'The next Order': one more than the greatest that there is, of all tubes, whichever jobs have gone.
func TestNextOrder(t *testing.T) {
	b := newBench(t, wide, 10, 1, 2)
	b.do(1, "put 5 0 60", "put 5 0 60", "put 5 0 60", "use a", "put 5 0 60", "put 5 0 60")
	b.do(2, "reserve-job 1", "reserve-job 2", "reserve-job 3", "reserve-job 4", "reserve-job 5")
	orders := func(want ...int) {
		t.Helper()
		var got []int
		for _, j := range b.e.Jobs() {
			got = append(got, j.Order)
		}
		if !slices.Equal(got, want) {
			t.Errorf("the orders are %v; want %v", got, want)
		}
	}
	b.do(2, "bury 3 0", "bury 4 0", "bury 1 0")
	orders(3, 0, 1, 2, 0)
	b.do(2, "kick-job 4", "bury 5 0")
	orders(3, 0, 1, 0, 4)
	b.do(2, "reserve-job 5", "bury 5 0")
	orders(3, 0, 1, 0, 4)
	b.do(2, "delete 5", "kick-job 1", "reserve-job 1", "bury 1 0")
	orders(2, 0, 1, 0)
	b.do(2, "kick-job 3", "bury 2 0", "reserve-job 3", "bury 3 0")
	orders(2, 3, 4, 0)
	b.do(2, "delete 2", "delete 1", "delete 3", "reserve-job 4", "bury 4 0")
	orders(1)
	b = b.reopen(10, 2)
	b.do(2, "put 5 0 60", "reserve", "bury 6 0")
	orders(1, 2)
}

// 'The next Order': it stays at MaxWord; of two with one Order the smaller id is first.
func TestLastOrders(t *testing.T) {
	const most = 1<<62 - 1
	b := opened(t, wide, 20,
		api.Stored{TTR: 9, State: api.Buried, Order: most - 1, Tube: "default"}, api.Stored{TTR: 9, State: api.Ready, Tube: "default"},
		api.Stored{TTR: 9, State: api.Ready, Tube: "default"}, api.Stored{TTR: 9, State: api.Buried, Order: 5, Tube: "default"}, api.Stored{TTR: 9, State: api.Buried, Order: 5, Tube: "default"})
	b.join(1)
	b.do(1, "reserve-job 3", "reserve-job 2", "bury 3 0")
	wantInt(t, b.job(3).Order, most)
	b.says(1, cmd("bury 2 0"), "1: BURIED")
	wantInt(t, b.job(2).Order, most)
	for _, id := range []int{4, 5, 1, 2, 3} {
		outs, _ := b.e.Do(1, cmd("peek-buried"))
		wantInt(t, outs[0].Reply.Id, id)
		b.says(1, cmd("kick 1"), "1: KICKED 1")
	}
	b.do(1, "reserve-job 1", "bury 1 0")
	wantInt(t, b.job(1).Order, 1)
}

// 'What an engine has': counts of a job stay at MaxWord.
func TestLastCounts(t *testing.T) {
	const most = 1<<62 - 1
	top := api.Counts{Reserves: most, Timeouts: most, Releases: most, Buries: most, Kicks: most}
	b := opened(t, wide, 20, api.Stored{TTR: 2, State: api.Ready, Counts: top, Tube: "default"}, api.Stored{TTR: 2, State: api.Delayed, Due: 99, Counts: top, Tube: "default"},
		api.Stored{TTR: 2, State: api.Ready, Tube: "default", Counts: api.Counts{Reserves: most - 1, Timeouts: most - 1, Releases: most - 1, Buries: most - 1, Kicks: most - 1}})
	b.join(1)
	for _, id := range []string{"1", "2", "3"} {
		b.do(1, "reserve-job "+id, "release "+id+" 0 0", "reserve-job "+id, "bury "+id+" 0", "kick-job "+id, "reserve-job "+id)
	}
	b.tick(2)
	for id := 1; id <= 3; id++ {
		if got := b.job(id).Counts; got != top {
			t.Errorf("the counts are %+v", got)
		}
	}
	b.wantStates("1r 2r 3r")
	wantInt(t, b.e.Shop().Timeouts, 3)
}

// P17.10: a touch.
func TestTouch(t *testing.T) {
	b := newBench(t, wide, 10, 1, 2)
	b.do(1, "put 5 0 3")
	b.refused(1, cmd("touch 1"), "NOT_FOUND")
	b.do(2, "reserve")
	b.tick(2)
	before := tellsOf(b.e)
	b.refused(1, cmd("touch 1"), "NOT_FOUND")
	b.refused(2, cmd("touch 2"), "NOT_FOUND")
	b.all(2, cmd("touch 1"), "2: TOUCHED")
	before.jobs[0].Due = 15
	before.shop.Done[api.CmdTouch] += 3
	wantTells(t, b.e, before)
	b.tick(2)
	b.wantStates("1R")
	b.tick(1)
	b.wantStates("1r")
	b.refused(2, cmd("touch 1"), "NOT_FOUND")
}

// P17.11: use, watch, ignore.
func TestTubes(t *testing.T) {
	b := newBench(t, wide, 10, 1, 2)
	long := strings.Repeat("l", 200)
	b.all(1, cmd("use "+long), "1: USING "+long)
	b.all(1, cmd("list-tube-used"), "1: USING "+long)
	b.wantTubes("default", long)
	b.all(1, cmd("use b"), "1: USING b")
	b.all(1, cmd("watch a"), "1: WATCHING 2")
	b.all(1, cmd("watch a"), "1: WATCHING 2")
	b.all(1, cmd("watch c"), "1: WATCHING 3")
	b.wantTubes("a", "b", "c", "default")
	b.all(1, cmd("list-tubes-watched"), "1: OK 22 ---\n- a\n- c\n- default\n")
	b.all(2, cmd("list-tubes"), "2: OK 26 ---\n- a\n- b\n- c\n- default\n")
	b.all(2, cmd("list-tubes-watched"), "2: OK 14 ---\n- default\n")
	b.all(1, cmd("ignore zz"), "1: WATCHING 3")
	b.all(1, cmd("ignore default"), "1: WATCHING 2")
	b.all(1, cmd("ignore default"), "1: WATCHING 2")
	b.all(1, cmd("ignore a"), "1: WATCHING 1")
	b.refused(1, cmd("ignore c"), "NOT_IGNORED")
	b.all(1, cmd("ignore a"), "1: WATCHING 1")
	b.wantTubes("b", "c", "default")
	if got, want := b.seat(1), (api.Seat{Num: 1, Used: "b", Watched: []string{"c"}}); !reflect.DeepEqual(got, want) {
		t.Errorf("the connection is %+v; want %+v", got, want)
	}
}

// P17.12: peek by id, in whatever state; and the first ones of the tube that it uses, paused or not.
func TestPeek(t *testing.T) {
	b := newBench(t, wide, 10, 1, 2)
	for _, line := range []string{"peek-ready", "peek-delayed", "peek-buried", "peek 0", "peek 1", "peek 4611686018427387903"} {
		b.refused(1, cmd(line), "NOT_FOUND")
	}
	b.do(1, "use a")
	b.says(1, cmd("put 5 0 60", "one"), "1: INSERTED 1")
	b.says(1, cmd("put 4 0 60", "two"), "1: INSERTED 2")
	b.says(1, cmd("put 4 0 60", "three"), "1: INSERTED 3")
	b.do(1, "put 4 5 60", "put 4 4 60", "put 4 4 60", "put 0 0 60", "put 0 0 60", "put 0 0 60", "reserve-job 8", "bury 8 9", "reserve-job 7", "bury 7 1", "reserve-job 9")
	b.do(2, "use a", "pause-tube a 50")
	for _, conn := range []int{1, 2} {
		b.all(conn, cmd("peek-ready"), numberOf(conn)+": FOUND 2 3 two")
		b.all(conn, cmd("peek-delayed"), numberOf(conn)+": FOUND 5 0 ")
		b.all(conn, cmd("peek-buried"), numberOf(conn)+": FOUND 8 0 ")
	}
	b.all(2, cmd("peek 3"), "2: FOUND 3 5 three")
	b.all(2, cmd("peek 9"), "2: FOUND 9 0 ")
	b.all(2, cmd("peek 7"), "2: FOUND 7 0 ")
	b.all(2, cmd("peek 4"), "2: FOUND 4 0 ")
	b.refused(2, cmd("peek 10"), "NOT_FOUND")
	b.do(2, "use b")
	for _, line := range []string{"peek-ready", "peek-delayed", "peek-buried"} {
		b.refused(2, cmd(line), "NOT_FOUND")
	}
}

// P17.13: buried jobs by their Orders, and only where there are none delayed ones by their Dues; at most the bound; of one tube.
func TestKick(t *testing.T) {
	b := newBench(t, wide, 10, 1, 2)
	b.do(1, "use a", "put 5 9 60", "put 5 8 60", "put 5 8 60", "put 5 0 60", "put 5 0 60", "put 5 0 60", "use b", "put 5 9 60")
	b.do(2, "use a", "reserve-job 5", "reserve-job 4", "reserve-job 6", "bury 5 1", "bury 6 2", "bury 4 3")
	b.all(2, cmd("kick 0"), "2: KICKED 0")
	b.all(2, cmd("kick 2"), "append 1", "sync 1", "append 1", "sync 1", "2: KICKED 2")
	b.wantStates("1d 2d 3d 4b 5r 6r 7d")
	b.wantJob(api.Job{Id: 5, Pri: 1, TTR: 60, Born: 10, State: api.Ready, Holder: -1, Counts: api.Counts{Reserves: 1, Buries: 1, Kicks: 1}, Tube: "a"})
	b.wantStored(api.Stored{Id: 5, Pri: 1, TTR: 60, Born: 10, State: api.Ready, Counts: api.Counts{Reserves: 1, Buries: 1, Kicks: 1}, Tube: "a"})
	b.all(2, cmd("kick 4294967295"), "append 1", "sync 1", "2: KICKED 1")
	b.wantStates("1d 2d 3d 4r 5r 6r 7d")
	b.all(2, cmd("kick 1"), "append 1", "sync 1", "2: KICKED 1")
	b.wantStates("1d 2r 3d 4r 5r 6r 7d")
	b.wantJob(api.Job{Id: 2, Pri: 5, Delay: 8, TTR: 60, Born: 10, State: api.Ready, Holder: -1, Counts: api.Counts{Kicks: 1}, Tube: "a"})
	b.wantStored(api.Stored{Id: 2, Pri: 5, Delay: 8, TTR: 60, Born: 10, State: api.Ready, Counts: api.Counts{Kicks: 1}, Tube: "a"})
	b.all(2, cmd("kick 3"), "append 1", "sync 1", "append 1", "sync 1", "2: KICKED 2")
	b.wantStates("1r 2r 3r 4r 5r 6r 7d")
	b.all(2, cmd("kick 3"), "2: KICKED 0")
	b.do(2, "use nobody")
	b.all(2, cmd("kick 3"), "2: KICKED 0")
	b.all(1, cmd("kick 3"), "append 1", "sync 1", "1: KICKED 1")
}

// P17.13: what is kicked is handed out behind the reply, by rank.
func TestKickMatches(t *testing.T) {
	b := newBench(t, wide, 10, 1, 2, 3)
	b.do(1, "put 5 9 60", "put 4 8 60", "put 6 7 60")
	b.do(3, "reserve")
	b.do(2, "reserve")
	b.all(1, cmd("kick 3"), "append 1", "sync 1", "append 1", "sync 1", "append 1", "sync 1", "1: KICKED 3", "3: RESERVED 2 0 ", "2: RESERVED 1 0 ")
	b.wantStates("1R 2R 3r")
	b.do(1, "put 5 9 60")
	b.do(3, "reserve", "reserve")
	b.all(1, cmd("kick-job 4"), "append 1", "sync 1", "1: KICKED", "3: RESERVED 4 0 ")
}

// P17.13: it ends at the first one for which there is no room.
func TestKickNoRoom(t *testing.T) {
	b := newBench(t, api.Config{JobMax: 100, Segment: 512, Quota: 2048}, 10, 1, 2)
	b.do(1, "use a", "put 0 0 60", "put 0 0 60", "put 0 0 60", "reserve-job 1", "reserve-job 2", "reserve-job 3", "bury 3 0", "bury 1 0", "bury 2 0")
	b.do(1, "use default")
	b.do(2, "use a")
	for b.e.Shop().Room >= 2*(97+122+25) {
		b.says(1, cmd("put 4000000000 0 60", "x"), "1: INSERTED "+numberOf(b.e.Shop().Total+1))
	}
	if b.e.Shop().Room < 97+122+25 {
		t.Fatalf("the room is %d", b.e.Shop().Room)
	}
	outs, _ := b.e.Do(2, cmd("kick 3"))
	if says := b.done(outs); len(says) != 1 || says[0].Reply.Kind != api.RepKicked || says[0].Reply.Number != 1 {
		t.Errorf("kick: %s", toldAll(t, outs))
	}
	for id, want := range map[int]int{3: api.Ready, 1: api.Buried, 2: api.Buried} {
		wantInt(t, b.job(id).State, want)
	}
	b.do(1, "use default")
	b.noRoom(1)
	before := tellsOf(b.e)
	b.all(2, cmd("kick 3"), "2: KICKED 0")
	before.shop.Done[api.CmdKick]++
	wantTells(t, b.e, before)
	b.refused(2, cmd("kick-job 1"), "OUT_OF_MEMORY")
}

func numberOf(n int) string { return strconv.Itoa(n) }

// P17.13: kick-job.
func TestKickJob(t *testing.T) {
	b := newBench(t, wide, 10, 1, 2)
	b.do(1, "use a", "put 5 9 60", "put 5 0 60", "put 5 0 60", "put 5 0 60", "reserve-job 2", "bury 2 7", "reserve-job 3")
	for _, id := range []string{"0", "3", "4", "5", "4611686018427387903"} {
		b.refused(1, cmd("kick-job "+id), "NOT_FOUND")
	}
	b.all(2, cmd("kick-job 1"), "append 1", "sync 1", "2: KICKED")
	b.all(2, cmd("kick-job 2"), "append 1", "sync 1", "2: KICKED")
	b.wantJob(api.Job{Id: 1, Pri: 5, Delay: 9, TTR: 60, Born: 10, State: api.Ready, Holder: -1, Counts: api.Counts{Kicks: 1}, Tube: "a"})
	b.wantJob(api.Job{Id: 2, Pri: 7, TTR: 60, Born: 10, State: api.Ready, Holder: -1, Counts: api.Counts{Reserves: 1, Buries: 1, Kicks: 1}, Tube: "a"})
	b.wantStored(api.Stored{Id: 2, Pri: 7, TTR: 60, Born: 10, State: api.Ready, Counts: api.Counts{Reserves: 1, Buries: 1, Kicks: 1}, Tube: "a"})
	b.refused(2, cmd("kick-job 1"), "NOT_FOUND")
	b.refused(2, cmd("kick-job 2"), "NOT_FOUND")
}
