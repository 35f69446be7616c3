package engine

import (
	"reflect"
	"strings"
	"testing"

	"stint/api"
	"stint/figures"
	"stint/yaml"
)

// wantData holds a text that is told against what it should be.
func (b *bench) wantData(conn int, c api.Cmd, want []byte) {
	b.t.Helper()
	before := tellsOf(b.e)
	outs, err := b.e.Do(conn, c)
	if err != api.OK || len(outs) != 1 || outs[0].Kind != api.OutSay || outs[0].Conn != conn || outs[0].Reply.Kind != api.RepData {
		b.t.Fatalf("Do(%s): %s, %d", show(c), show(outs), err)
	}
	if got := string(outs[0].Reply.Body); got != string(want) || got == "" {
		b.t.Errorf("Do(%s): %q; want %q", show(c), got, want)
	}
	before.shop.Done[c.Kind]++
	wantTells(b.t, b.e, before)
}

// valueOf is what a text tells of a key.
func valueOf(t *testing.T, text []byte, key string) string {
	t.Helper()
	pairs, err := yaml.ReadDict(text)
	if err != api.OK {
		t.Fatalf("ReadDict = %d", err)
	}
	for _, p := range pairs {
		if p.Key == key {
			return p.Value
		}
	}
	t.Errorf("there is no %s", key)
	return ""
}

// P17.14: stats-job tells the job, the file of its whole record, and times at the clock.
func TestStatsJob(t *testing.T) {
	b := newBench(t, small, 10, 1, 2)
	b.do(1, "use aa", "put 5 0 60", "put 6 7 60", "put 7 0 60", "reserve-job 1")
	b.tick(4)
	for _, id := range []int{1, 2, 3} {
		b.wantData(2, cmd("stats-job "+numberOf(id)), figures.Job(b.job(id), b.e.ledger.File(id), 14))
	}
	outs, _ := b.e.Do(2, cmd("stats-job 2"))
	text := outs[0].Reply.Body
	for key, want := range map[string]string{"id": "2", "tube": "aa", "state": "delayed", "pri": "6", "age": "4", "delay": "7", "ttr": "60", "time-left": "3", "file": "1"} {
		if got := valueOf(t, text, key); got != want {
			t.Errorf("%s: %s; want %s", key, got, want)
		}
	}
	outs, _ = b.e.Do(2, cmd("stats-job 3"))
	if got := valueOf(t, outs[0].Reply.Body, "file"); got != "2" {
		t.Errorf("the file is %s; want 2", got)
	}
	for _, id := range []string{"0", "4", "4611686018427387903"} {
		b.refused(1, cmd("stats-job "+id), "NOT_FOUND")
	}
}

// P17.14: stats-tube of each tube that is there, for whatever reason.
func TestStatsTube(t *testing.T) {
	b := newBench(t, wide, 10, 1, 2)
	b.do(1, "use jobs", "put 5 0 60", "use used", "watch watched", "pause-tube jobs 7")
	b.do(2, "watch jobs", "reserve")
	b.tick(2)
	for _, name := range []string{"default", "jobs", "used", "watched"} {
		b.wantData(1, cmd("stats-tube "+name), figures.Tube(b.tube(name), 12))
	}
	outs, _ := b.e.Do(1, cmd("stats-tube jobs"))
	for key, want := range map[string]string{"name": "jobs", "current-jobs-ready": "1", "total-jobs": "1", "current-using": "0", "current-waiting": "1", "current-watching": "1", "pause": "7", "cmd-delete": "0", "cmd-pause-tube": "1", "pause-time-left": "5"} {
		if got := valueOf(t, outs[0].Reply.Body, key); got != want {
			t.Errorf("%s: %s; want %s", key, got, want)
		}
	}
	for _, name := range []string{"none", "Default", "job", "jobs1"} {
		b.refused(1, cmd("stats-tube "+name), "NOT_FOUND")
	}
	b.do(1, "use default", "ignore watched", "delete 1")
	b.refused(1, cmd("stats-tube used"), "NOT_FOUND")
	b.refused(1, cmd("stats-tube watched"), "NOT_FOUND")
	b.wantData(1, cmd("stats-tube jobs"), figures.Tube(b.tube("jobs"), 12))
	b.leave(2)
	b.refused(1, cmd("stats-tube jobs"), "NOT_FOUND")
}

// P17.14: stats counts itself.
func TestStats(t *testing.T) {
	b := newBench(t, wide, 10, 1, 2)
	b.do(1, "put 5 0 60", "reserve")
	b.do(2, "reserve")
	b.tick(3)
	for n := 1; n <= 3; n++ {
		s := b.e.Shop()
		s.Done[api.CmdStats] = n
		b.wantData(1, cmd("stats"), figures.Shop(s))
	}
	outs, _ := b.e.Do(1, cmd("stats"))
	for key, want := range map[string]string{"cmd-stats": "4", "uptime": "3", "current-workers": "2", "current-producers": "1", "current-waiting": "1", "total-jobs": "1", "draining": "false"} {
		if got := valueOf(t, outs[0].Reply.Body, key); got != want {
			t.Errorf("%s: %s; want %s", key, got, want)
		}
	}
	b.e.Drain()
	outs, _ = b.e.Do(1, cmd("stats"))
	if got := valueOf(t, outs[0].Reply.Body, "draining"); got != "true" {
		t.Errorf("draining: %s", got)
	}
}

// P17.14: lists of tubes.
func TestLists(t *testing.T) {
	b := newBench(t, wide, 10, 1, 2)
	b.all(1, cmd("list-tubes"), "1: OK 14 ---\n- default\n")
	b.all(1, cmd("list-tubes-watched"), "1: OK 14 ---\n- default\n")
	b.all(1, cmd("list-tube-used"), "1: USING default")
	b.do(1, "use jobs", "put 5 0 60", "use B", "watch a", "ignore default")
	b.all(2, cmd("list-tubes"), "2: OK 29 ---\n- B\n- a\n- default\n- jobs\n")
	b.all(1, cmd("list-tubes-watched"), "1: OK 8 ---\n- a\n")
	b.all(1, cmd("list-tube-used"), "1: USING B")
	b.all(2, cmd("list-tube-used"), "2: USING default")
	b.leave(1)
	b.all(2, cmd("list-tubes"), "2: OK 21 ---\n- default\n- jobs\n")
	b.leave(2)
	b.wantTubes("default", "jobs")
}

// P17.15: a pause keeps ready jobs back, till its end, or till it is taken back.
func TestPause(t *testing.T) {
	b := newBench(t, wide, 10, 1, 2)
	b.refused(1, cmd("pause-tube a 5"), "NOT_FOUND")
	b.refused(1, cmd("pause-tube a 0"), "NOT_FOUND")
	b.do(1, "use a")
	b.all(1, cmd("pause-tube a 5"), "1: PAUSED")
	b.wantTube(api.Tube{Name: "a", Using: 1, Pauses: 1, Pause: 5, Until: 15})
	b.do(2, "watch a", "reserve")
	b.all(1, cmd("put 1 0 9"), "append 1", "sync 1", "1: INSERTED 1")
	b.tick(3)
	b.all(1, cmd("pause-tube a 4"), "1: PAUSED")
	b.wantTube(api.Tube{Name: "a", Sums: api.Sums{Ready: 1, Urgent: 1}, Using: 1, Watching: 1, Waiting: 1, Total: 1, Pauses: 2, Pause: 4, Until: 17})
	b.tick(3)
	b.all(1, cmd("pause-tube a 0"), "1: PAUSED", "2: RESERVED 1 0 ")
	b.wantTube(api.Tube{Name: "a", Sums: api.Sums{Reserved: 1}, Using: 1, Watching: 1, Total: 1, Pauses: 3})
	b.all(1, cmd("pause-tube a 0"), "1: PAUSED")
	wantInt(t, b.tube("a").Pauses, 4)
	b.all(1, cmd("pause-tube a 4294967295"), "1: PAUSED")
	b.wantTube(api.Tube{Name: "a", Sums: api.Sums{Reserved: 1}, Using: 1, Watching: 1, Total: 1, Pauses: 5, Pause: 1<<32 - 1, Until: 16 + 1<<32 - 1})
	b.do(2, "release 1 0 0")
	b.all(2, cmd("reserve-with-timeout 0"), "2: TIMED_OUT")
	b.all(1, cmd("pause-tube default 1"), "1: PAUSED")
	b.wantTube(api.Tube{Name: "default", Watching: 2, Using: 1, Pauses: 1, Pause: 1, Until: 17})
	b.tick(1)
	b.wantTube(api.Tube{Name: "default", Watching: 2, Using: 1, Pauses: 1})
}

// P17.15: what is ready in a paused tube is handed to nobody, also where better jobs are handed out.
func TestPausedTubeIsLetBy(t *testing.T) {
	b := newBench(t, wide, 10, 1, 2, 3)
	b.do(1, "use a", "put 1 0 9", "pause-tube a 3", "use b")
	b.do(2, "watch a", "watch b", "reserve")
	b.do(3, "watch a", "watch b", "reserve")
	b.all(1, cmd("put 7 0 9"), "append 1", "sync 1", "1: INSERTED 2", "2: RESERVED 2 0 ")
	b.do(1, "use a")
	b.all(1, cmd("put 0 0 9"), "append 1", "sync 1", "1: INSERTED 3")
	b.tick(3, "3: RESERVED 3 0 ")
	b.wantStates("1r 2R 3R")
}

// 'What an engine has': a tube that is no longer there takes its counters and its pause along; default never goes.
func TestForgotten(t *testing.T) {
	gone := func(name string, how func(b *bench)) {
		t.Helper()
		b := newBench(t, wide, 10, 1, 2, 3)
		b.do(1, "use "+name, "put 1 0 9", "put 1 0 9", "delete 1", "pause-tube "+name+" 50")
		b.wantTube(api.Tube{Name: name, Sums: api.Sums{Ready: 1, Urgent: 1}, Using: 1 + 2*one(name == "default"), Watching: 3 * one(name == "default"), Total: 2, Deletes: 1, Pauses: 1, Pause: 50, Until: 60})
		how(b)
		b.wantTubes("default")
		wantInt(t, len(b.e.tubes), 0)
		b.do(3, "use "+name)
		b.wantTube(api.Tube{Name: name, Using: 1})
		b.do(3, "put 1 0 9", "watch "+name)
		b.says(3, cmd("reserve"), "3: RESERVED 3 0 ")
	}
	gone("t", func(b *bench) { b.do(1, "use default"); b.do(2, "delete 2") })
	gone("t", func(b *bench) { b.do(1, "delete 2", "use default") })
	gone("t", func(b *bench) { b.do(1, "delete 2"); b.leave(1) })
	gone("t", func(b *bench) { b.do(1, "delete 2", "watch t", "use default", "ignore t") })
	gone("t", func(b *bench) { b.do(1, "delete 2", "watch t", "ignore t", "use default") })
	gone("t", func(b *bench) { b.do(1, "watch t", "use default"); b.leave(1); b.do(2, "delete 2") })
	gone("t", func(b *bench) { b.do(2, "watch t"); b.leave(1); b.do(3, "delete 2"); b.leave(2) })
	gone("t", func(b *bench) { b.do(2, "reserve-job 2"); b.leave(1); b.do(2, "delete 2") })

	b := newBench(t, wide, 10, 1)
	b.do(1, "put 1 0 9", "delete 1", "pause-tube default 50", "use a", "watch a", "ignore default")
	b.leave(1)
	b.wantTube(api.Tube{Name: "default", Total: 1, Deletes: 1, Pauses: 1, Pause: 50, Until: 60})
	b.tick(50)
	b.wantTube(api.Tube{Name: "default", Total: 1, Deletes: 1, Pauses: 1})
}

// 'What an engine has': each of user, watcher and job by itself keeps a tube there, with its counters and its pause.
func TestKept(t *testing.T) {
	for _, how := range []func(b *bench){
		func(b *bench) { b.do(1, "use default") },
		func(b *bench) { b.do(1, "delete 2") },
		func(b *bench) { b.do(2, "watch t"); b.do(1, "delete 2", "use default") },
		func(b *bench) { b.do(2, "use t"); b.do(1, "delete 2"); b.leave(1) },
		func(b *bench) { b.do(2, "reserve-job 2"); b.leave(1) },
		func(b *bench) { b.do(2, "reserve-job 2"); b.leave(1); b.leave(2) },
		func(b *bench) { b.do(2, "reserve-job 2"); b.leave(1); b.do(2, "bury 2 1") },
		func(b *bench) { b.do(1, "watch t", "ignore t") },
		func(b *bench) { b.do(1, "use t") },
	} {
		b := newBench(t, wide, 10, 1, 2)
		b.do(1, "use t", "put 1 0 9", "put 1 0 9", "delete 1", "pause-tube t 50")
		how(b)
		x := b.tube("t")
		if x.Total != 2 || x.Deletes < 1 || x.Pauses != 1 || x.Pause != 50 || x.Until != 60 {
			t.Errorf("the tube is %+v", x)
		}
	}
}

// P17.16: delays and times to run end at their tick, not ahead of it; nothing is written.
func TestTick(t *testing.T) {
	b := newBench(t, wide, 10, 1, 2)
	b.do(1, "put 1 1 9", "put 1 2 9", "put 1 2 9", "put 1 0 2", "put 1 0 3", "put 1 0 2", "reserve-job 5", "reserve-job 4")
	b.do(2, "reserve-job 6")
	stored := b.e.Stored()
	b.tick(1)
	b.wantStates("1r 2d 3d 4R 5R 6R")
	b.wantJob(api.Job{Id: 1, Pri: 1, Delay: 1, TTR: 9, Born: 10, State: api.Ready, Holder: -1, Tube: "default"})
	wantInt(t, b.e.Shop().Timeouts, 0)
	b.tick(1)
	b.wantStates("1r 2r 3r 4r 5R 6r")
	b.wantJob(api.Job{Id: 4, Pri: 1, TTR: 2, Born: 10, State: api.Ready, Holder: -1, Counts: api.Counts{Reserves: 1, Timeouts: 1}, Tube: "default"})
	wantInt(t, b.e.Shop().Timeouts, 2)
	b.tick(1)
	b.wantStates("1r 2r 3r 4r 5r 6r")
	wantInt(t, b.e.Shop().Timeouts, 3)
	wantInt(t, b.e.Now(), 13)
	if !reflect.DeepEqual(b.e.Stored(), stored) {
		t.Errorf("they are stored otherwise: %s", show(b.e.Stored()))
	}
	before := tellsOf(b.e)
	b.tick(5)
	before.now, before.shop.Now = 18, 18
	wantTells(t, b.e, before)
}

// P17.16: who is handed a job by a tick, and then who is told that time is short, or up, in the order of their waiting.
func TestTickOrder(t *testing.T) {
	b := newBench(t, wide, 10, 1, 2, 3, 4, 5, 6)
	b.do(1, "use a", "put 1 0 4", "put 1 0 4", "put 1 0 3", "use b", "put 6 2 60", "put 5 2 60")
	b.do(5, "watch a", "reserve-job 1")
	b.do(4, "reserve-job 2")
	b.do(6, "reserve-job 3")
	b.tick(1)
	b.do(5, "reserve-with-timeout 1")
	b.do(4, "reserve")
	b.do(2, "watch x", "reserve-with-timeout 1")
	b.do(3, "watch b", "reserve-with-timeout 1")
	b.do(1, "watch b", "reserve")
	b.do(6, "watch b", "ignore default", "reserve")
	b.tick(1, "3: RESERVED 5 0 ", "1: RESERVED 4 0 ", "5: TIMED_OUT", "2: TIMED_OUT", "6: DEADLINE_SOON")
	b.do(5, "reserve-with-timeout 1")
	b.tick(1, "5: RESERVED 3 0 ", "4: DEADLINE_SOON")
	wantInt(t, b.e.Shop().Waiting, 0)
	wantInt(t, b.e.Shop().Timeouts, 1)
}

// P17.16: of soon and timed out at one tick soon is told.
func TestTickSoonAheadOfTimeout(t *testing.T) {
	b := newBench(t, wide, 10, 1)
	b.do(1, "put 1 0 3", "reserve", "reserve-with-timeout 2")
	b.tick(2, "1: DEADLINE_SOON")
	wantInt(t, one(b.e.Waits(1)), 0)
	b.do(1, "touch 1", "reserve-with-timeout 2")
	b.tick(2, "1: DEADLINE_SOON")
	b.tick(1)
	b.wantStates("1r")
}

// P17.16: a job is handed out at the tick at which one would be told that time is up; one that ran out can be had again.
func TestTickHandsBack(t *testing.T) {
	b := newBench(t, wide, 10, 1, 2)
	b.do(1, "put 1 2 9")
	b.do(2, "reserve-with-timeout 2")
	b.tick(2, "2: RESERVED 1 0 ")
	b.do(2, "watch z")
	b.tick(8)
	b.all(2, cmd("reserve"), "2: DEADLINE_SOON")
	b.tick(1)
	b.wantStates("1r")
	b.all(2, cmd("reserve-with-timeout 3"), "2: RESERVED 1 0 ")
}

// P17.16: a pause ends at its tick, for the jobs of that tube alone.
func TestTickPauses(t *testing.T) {
	b := newBench(t, wide, 10, 1, 2, 3, 4)
	b.do(1, "use a", "put 9 0 9", "pause-tube a 1", "use b", "put 8 0 9", "pause-tube b 2", "use c", "put 7 0 9", "pause-tube c 2")
	for _, conn := range []int{2, 3, 4} {
		b.do(conn, "watch a", "watch b", "watch c", "reserve")
	}
	b.tick(1, "2: RESERVED 1 0 ")
	b.wantTube(api.Tube{Name: "a", Sums: api.Sums{Reserved: 1}, Watching: 3, Waiting: 2, Total: 1, Pauses: 1})
	b.wantTube(api.Tube{Name: "b", Sums: api.Sums{Ready: 1, Urgent: 1}, Watching: 3, Waiting: 2, Total: 1, Pauses: 1, Pause: 2, Until: 12})
	b.tick(1, "3: RESERVED 3 0 ", "4: RESERVED 2 0 ")
	b.wantTube(api.Tube{Name: "c", Using: 1, Sums: api.Sums{Reserved: 1}, Watching: 3, Total: 1, Pauses: 1})
}

// P17.16, R8: the clock stands at MaxNow; nothing is due there that is due later.
func TestLastTick(t *testing.T) {
	b := newBench(t, wide, 1<<40-2, 1, 2, 3)
	b.do(1, "put 1 1 1", "put 1 2 1", "put 1 3 1", "put 1 0 2", "put 1 0 3", "reserve-job 4", "reserve-job 5", "use p", "pause-tube p 2", "pause-tube default 3")
	b.do(3, "watch z", "ignore default", "reserve-with-timeout 3")
	b.tick(1)
	b.wantStates("1r 2d 3d 4R 5R")
	b.tick(1)
	wantInt(t, b.e.Now(), 1<<40)
	b.wantStates("1r 2r 3d 4r 5R")
	before := tellsOf(b.e)
	for range 3 {
		if outs := b.e.Tick(); len(outs) != 0 {
			t.Errorf("a tick at the end: %s", toldAll(t, outs))
		}
		wantTells(t, b.e, before)
	}
	wantInt(t, b.e.Shop().Waiting, 1)
	b.refused(2, cmd("reserve-with-timeout 0"), "TIMED_OUT")
	b.all(2, cmd("pause-tube default 0"), "2: PAUSED")
	b.all(2, cmd("reserve"), "2: RESERVED 1 0 ")
	wantInt(t, b.job(1).Due, 1<<40+1)
	b.refused(1, cmd("reserve-job 5"), "NOT_FOUND")
	b.says(1, cmd("put 1 4294967295 4294967295"), "1: INSERTED 6")
	wantInt(t, b.job(6).Due, 1<<40+1<<32-1)
	wantReopened(b)
}

// 'To match': again and again the tube whose first job ranks best; who began to wait first of those that watch it.
func TestMatch(t *testing.T) {
	b := newBench(t, wide, 10, 0, 1, 2, 3, 4, 5)
	b.do(0, "use a", "put 5 1 60", "put 3 1 60", "use b", "put 4 1 60", "put 4 1 60", "use c", "put 1 1 60", "use d", "put 0 1 60")
	b.do(5, "watch b", "reserve")
	b.do(1, "watch b", "watch a", "reserve")
	b.do(4, "watch a", "reserve")
	b.do(2, "watch a", "watch c", "reserve")
	b.do(3, "watch b", "reserve")
	b.tick(1, "2: RESERVED 5 0 ", "1: RESERVED 2 0 ", "5: RESERVED 3 0 ", "3: RESERVED 4 0 ", "4: RESERVED 1 0 ")
	b.wantStates("1R 2R 3R 4R 5R 6r")
}

// 'To match': a tube whose watchers were all handed better jobs is let by, and those behind it are not.
func TestMatchGoesOn(t *testing.T) {
	b := newBench(t, wide, 10, 0, 1, 2, 3)
	b.do(0, "use a", "put 1 1 60", "use b", "put 2 1 60", "put 2 1 60", "use c", "put 3 1 60", "use d", "put 4 1 60", "use e", "put 5 1 60")
	b.do(1, "watch a", "watch b", "watch d", "reserve")
	b.do(2, "watch e", "reserve")
	b.do(3, "watch c", "reserve")
	b.tick(1, "1: RESERVED 1 0 ", "3: RESERVED 4 0 ", "2: RESERVED 6 0 ")
	b.wantStates("1R 2r 3r 4R 5r 6R")
}

// P17.17: it drains for good, and says so.
func TestDrain(t *testing.T) {
	b := newBench(t, wide, 10, 1)
	before := tellsOf(b.e)
	b.e.Drain()
	before.shop.Draining = true
	wantTells(t, b.e, before)
	b.tick(3)
	b.leave(1)
	b.join(1)
	b.refused(1, cmd("put 1 0 9"), "DRAINING")
	wantInt(t, one(b.e.Clone().Shop().Draining), 1)
}

// P17.18: Waits.
func TestWaits(t *testing.T) {
	b := newBench(t, wide, 10, 0, 63, 5)
	b.do(63, "reserve")
	b.do(0, "reserve-with-timeout 3")
	for conn := range api.MaxSeats {
		if b.e.Waits(conn) != (conn == 0 || conn == 63) {
			t.Errorf("Waits(%d) = %v", conn, b.e.Waits(conn))
		}
	}
	for _, conn := range wrongConns {
		if b.e.Waits(conn) {
			t.Errorf("Waits(%d) = true", conn)
		}
	}
	b.leave(63)
	wantInt(t, one(b.e.Waits(63)), 0)
	b.join(63)
	wantInt(t, one(b.e.Waits(63)), 0)
}

// P17.18: what the ledger has is told as it is.
func TestShopOfLedger(t *testing.T) {
	b := newBench(t, small, 10, 1)
	for n := range 40 {
		b.do(1, "put 1 0 9", "reserve-with-timeout 0", "delete "+numberOf(n))
		l, s := b.e.ledger, b.e.Shop()
		oldest, newest := l.Files()
		if s.Oldest != oldest || s.Newest != newest || s.Moved != l.Moved() || s.Written != l.Written() || s.Room != l.Room() {
			t.Errorf("Shop() = %+v", s)
		}
		if !reflect.DeepEqual(ownStored(b.e.Stored()), ownStored(l.Jobs())) {
			t.Errorf("Stored() = %s", show(b.e.Stored()))
		}
	}
	if s := b.e.Shop(); s.Moved == 0 || s.Oldest == 1 || s.Newest < s.Oldest || s.Written < 80 {
		t.Errorf("the play is too tame: %+v", s)
	}
}

// P17.18: who puts and who takes is told of those that are there.
func TestNotes(t *testing.T) {
	b := newBench(t, wide, 10, 1, 2, 3)
	b.do(1, "put 1 0 9", "use a", "watch b", "peek 1", "stats", "kick 1")
	b.do(2, "reserve-job 7")
	b.do(3, "reserve-with-timeout 0", "put 1 0 9")
	for conn, want := range map[int]api.Seat{1: {Puts: true}, 2: {Takes: true}, 3: {Puts: true, Takes: true}} {
		if s := b.seat(conn); s.Puts != want.Puts || s.Takes != want.Takes {
			t.Errorf("the connection is %+v", s)
		}
	}
	if s := b.e.Shop(); s.Producers != 2 || s.Workers != 2 {
		t.Errorf("Shop() = %+v", s)
	}
	b.leave(3)
	if s := b.e.Shop(); s.Producers != 1 || s.Workers != 1 || s.Opened != 3 {
		t.Errorf("Shop() = %+v", s)
	}
}

// P17.18: of no other command than put and the three reserves anything is noted.
func TestNotesOfKinds(t *testing.T) {
	for _, c := range eachKind() {
		b := newBench(t, wide, 10, 1)
		b.e.Do(1, c)
		s := b.seat(1)
		takes := c.Kind == api.CmdReserve || c.Kind == api.CmdReserveWithin || c.Kind == api.CmdReserveJob
		if s.Puts != (c.Kind == api.CmdPut) || s.Takes != takes {
			t.Errorf("behind %s the connection is %+v", show(c), s)
		}
	}
}

// P17.24: where there is no room at all each job can be buried and deleted.
func TestNeverRefused(t *testing.T) {
	for _, c := range []api.Config{small, {JobMax: 100, Segment: 128, Quota: 1024}, {JobMax: 100, Segment: 512, Quota: 4096}} {
		b := newBench(t, c, 10, 1, 2)
		b.do(1, "put 1 90 60", "put 1 90 60")
		b.noRoom(1)
		var ids []string
		for _, j := range b.e.Jobs() {
			ids = append(ids, numberOf(j.Id))
		}
		for _, id := range ids[2:] {
			b.do(1, "reserve-job "+id)
		}
		for _, id := range ids[2:] {
			b.says(1, cmd("bury "+id+" 7"), "1: BURIED")
		}
		for _, id := range ids {
			b.says(2, cmd("delete "+id), "2: DELETED")
		}
		files := b.d.Files()
		if len(files) != 1 || len(files[0].Data) != 25 {
			t.Errorf("%d files are left, the first one with %d bytes", len(files), len(files[0].Data))
		}
	}
}

// DOC.md's examples of the whole, as far as an engine has them.
func TestWholeExamples(t *testing.T) {
	b := newBench(t, wide, 10, 1, 2)
	b.do(1, "put 0 0 3")
	b.do(2, "reserve", "watch z", "reserve")
	b.tick(2, "2: DEADLINE_SOON")
	b.tick(1)
	b.refused(2, cmd("touch 1"), "NOT_FOUND")
	b.says(2, cmd("delete 1"), "2: DELETED")

	b = newBench(t, wide, 0, 1)
	b.do(1, "put 0 0 9", "put 0 0 9", "reserve", "reserve", "bury 2 0", "bury 1 0")
	o := b.reopen(0, 1)
	b.says(1, cmd("kick 1"), "1: KICKED 1")
	b.wantStates("1b 2r")
	o.says(1, cmd("kick 1"), "1: KICKED 1")
	o.wantStates("1b 2r")

	b = newBench(t, small, 0, 1)
	b.noRoom(1)
	b.refused(1, cmd("put 0 0 9", strings.Repeat("x", 100)), "OUT_OF_MEMORY")
	for _, j := range b.e.Jobs() {
		b.says(1, cmd("delete "+numberOf(j.Id)), "1: DELETED")
	}
	if files := b.d.Files(); len(files) != 1 || len(files[0].Data) != 25 {
		t.Errorf("the files are %s", show(files))
	}
}
