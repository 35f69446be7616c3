package judge

import (
	"fmt"
	"math"
	"strings"
	"testing"

	"stint/api"
)

const (
	put   = "put 5 0 9 1.a."
	first = "O1; H1 " + put + "; D1; S1 INSERTED 1."
	two   = "O1; O2; H1 " + put + "; D1; S1 INSERTED 1.; H2 reserve.; D2; S2 RESERVED 1 1."
)

// The chapter's examples.
func TestExamples(t *testing.T) {
	for _, x := range []struct{ history, want string }{
		{first, ""},
		{first + "; S1 INSERTED 1.", "4 Answer"},
		{first + "; H1 " + put + "; D1; S1 INSERTED 1.", "6 Again 1"},
		{"O1; H1 " + put + "; D1; T1", "3 Time"},
		{"O1; H1 reserve.; D1; S1 RESERVED 7 1.a.", "3 Gone 7"},
		{two + "b.", "7 Body 1"},
		{two + "a.; H1 reserve.; D1; S1 RESERVED 1 1.a.", "10 Hold 1"},
		{two + "a.; H1 reserve.; T9; D1; S1 RESERVED 1 1.a.", ""},
		{"O1; O2; H1 " + put + "; D1; S1 INSERTED 1.; H2 watch b.ignore default.; D2; S2 WATCHING 2.; D2; S2 WATCHING 1.; H2 reserve.; D2; S2 RESERVED 1 1.a.", "12 Tube 1"},
		{"O1; H1 " + put + put + "; D1; S1 INSERTED 1.; D1; S1 INSERTED 2.; H1 reserve.; D1; S1 RESERVED 2 1.a.", "8 Order 2"},
		{first + "; H1 peek 1.; D1; S1 NOT_FOUND.", "6 Lost 1"},
		{"O1; H1 " + put + "; D1; Down; Up; O1; H1 peek 4.; D1; S1 FOUND 4 1.a.", ""},
		{"O1; H1 " + put + "; D1; Down; Up; O1; H1 peek 4.; D1; S1 FOUND 4 1.b.", "8 Body 4"},
		{"O1; S1 HELLO", "1 Form"},
	} {
		judged(t, x.history, x.want)
	}
}

// The ten examples of the whole that a history can show, without a fault.
func TestExamplesOfTheWhole(t *testing.T) {
	for _, s := range []string{
		"O1; O2; Q1 put 10 0 60 5.hello.>INSERTED 1.; Q2 reserve.>RESERVED 1 5.hello.; Q2 delete 1.>DELETED.",
		"O1; O2; H2 reserve.; D2; Q1 put 10 0 60 5.hello.>INSERTED 1.; S2 RESERVED 1 5.hello.",
		"O1; H1 reserve-with-timeout 2.; D1; T1; T2; S1 TIMED_OUT.; Q1 reserve-with-timeout 0.>TIMED_OUT.",
		"O1; T10; Q1 put 0 0 3 1.x.>INSERTED 1.; Q1 reserve.>RESERVED 1 1.x.; H1 reserve.; D1; T11; T12; S1 DEADLINE_SOON.; T13; Q1 touch 1.>NOT_FOUND.; Q1 delete 1.>DELETED.",
		"O1; Q1 put 0 0 1 101." + strings.Repeat("x", 101) + ".>JOB_TOO_BIG.; Q1 put 0 0 1 2.abc.>EXPECTED_CRLF.",
		"O1; Q1 use a.>USING a.; Q1 ignore default.>NOT_IGNORED.; Q1 watch a.>WATCHING 2.; Q1 ignore default.>WATCHING 1.",
		"O1; H1 reserve.stats.; D1; T1",
	} {
		judged(t, s, "")
	}
}

// P21.6, P21.7: ErrConfig goes ahead of ErrJudgeEvent.
func TestConfig(t *testing.T) {
	for _, c := range []api.Config{{}, {JobMax: 0, Segment: 256, Quota: 4096}, {JobMax: 65536, Segment: 4096, Quota: 65536}, {JobMax: 1, Segment: 127, Quota: 4096}, {JobMax: 1, Segment: 257, Quota: 1024}, {JobMax: -1, Segment: -1, Quota: -1}} {
		refused(t, fmt.Sprint(c), c, nil, api.ErrConfig)
		refused(t, fmt.Sprint(c), c, []api.Event{{Kind: 0}}, api.ErrConfig)
		refused(t, fmt.Sprint(c), c, make([]api.Event, api.MaxEvents+1), api.ErrConfig)
	}
}

// conned and clocked are the kinds whose Conn, whose Now is looked at.
var (
	conned  = []int{api.EvOpened, api.EvHeard, api.EvSaid, api.EvHung, api.EvDone}
	clocked = []int{api.EvTicked, api.EvDown, api.EvUp}
	neither = []int{api.EvRefused, api.EvDrains}
)

// P21.6: which events may be.
func TestEvents(t *testing.T) {
	wrong := func(e api.Event) {
		t.Helper()
		refused(t, fmt.Sprint(e), mild, []api.Event{e}, api.ErrJudgeEvent)
		l := append(history("O1; S1 HELLO"), e)
		refused(t, fmt.Sprint("behind a fault ", e), mild, append(l, history("T1")...), api.ErrJudgeEvent)
	}
	right := func(e api.Event) {
		t.Helper()
		if _, err := All(mild, []api.Event{e}); err != api.OK {
			t.Errorf("%v: All = %d", e, err)
		}
		if _, _, err := First(mild, []api.Event{e}); err != api.OK {
			t.Errorf("%v: First = %d", e, err)
		}
	}
	for _, kind := range []int{math.MinInt, -10, -1, 0, 11, 12, 256 + 1, 1<<32 + 5, math.MaxInt} {
		wrong(api.Event{Kind: kind})
	}
	strange := []byte("\x00\xff")
	for _, kind := range conned {
		for _, conn := range []int{math.MinInt, -1, 64, 65, 256 + 1, 1<<32 + 1, math.MaxInt} {
			wrong(api.Event{Kind: kind, Conn: conn})
		}
		for _, conn := range []int{0, 1, 62, 63} {
			right(api.Event{Kind: kind, Conn: conn, Now: -1, Code: 999, Data: strange})
			right(api.Event{Kind: kind, Conn: conn, Now: math.MaxInt, Code: -1})
		}
	}
	for _, kind := range clocked {
		for _, now := range []int{math.MinInt, -1, api.MaxNow + 1, 1 << 41, math.MaxInt} {
			wrong(api.Event{Kind: kind, Now: now})
		}
		for _, now := range []int{0, 1, api.MaxNow - 1, api.MaxNow} {
			right(api.Event{Kind: kind, Now: now, Conn: -1, Code: 999, Data: strange})
			right(api.Event{Kind: kind, Now: now, Conn: math.MaxInt, Code: -1})
		}
	}
	for _, kind := range neither {
		right(api.Event{Kind: kind, Now: -1, Conn: -1, Code: 999, Data: strange})
		right(api.Event{Kind: kind, Now: math.MaxInt, Conn: math.MaxInt, Code: -1})
	}
}

// P21.6: how many events may be.
func TestMostEvents(t *testing.T) {
	l := make([]api.Event, api.MaxEvents)
	for i := range l {
		l[i] = api.Event{Kind: api.EvTicked, Now: i}
	}
	wantAll(t, l, "")
	l[len(l)-1] = api.Event{Kind: api.EvDone}
	wantAll(t, l, "65535 Answer")
	refused(t, "one more", mild, append(l, api.Event{Kind: api.EvDrains}), api.ErrJudgeEvent)
	judged(t, "", "")
}

// Of what is not open nothing is done; only what is said to it, or done for it, breaks RuleAnswer.
func TestNotOpen(t *testing.T) {
	judged(t, "H1 stats.; X1; D1; S1 OK 0..; S1 HELLO; S1 ; T1", "2 Answer, 3 Answer, 4 Answer, 5 Answer")
	judged(t, "H1 stats.; O1; D1", "2 Answer") // what was heard ahead of its coming
	judged(t, "S1 INSER; O1; H1 "+put+"; D1; S1 TED 1.", "0 Answer, 4 Form")
	judged(t, "O1; H1 stats.; D1; S1 OK 0..; X1; D1; S1 OK 0..; O2; D1; S1 OK 0..", "5 Answer, 6 Answer, 8 Answer, 9 Answer")
	judged(t, "O1; H1 stats.; X1; O1; D1", "4 Answer")
	judged(t, "O1; O0; O63; H1 stats.; Down; D1; S1 OK 0..; H1 stats.; Up; D1; S0 ; S63 ; O1; D1", "5 Answer, 6 Answer, 9 Answer, 10 Answer, 11 Answer, 13 Answer")
}

// A connection that comes while it is open has gone first.
func TestOpenAgain(t *testing.T) {
	judged(t, "O1; H1 stats.; O1; D1; S1 OK 0..", "3 Answer, 4 Answer")
	judged(t, "O1; S1 OK; O1; Q1 stats.>OK 0..", "")
	judged(t, "O1; S1 HELLO; O1; Q1 stats.>OK 0..; S1 HELLO; S1 ", "1 Form, 6 Form, 7 Form")
	judged(t, "O1; Q1 use a.>USING a.; Q1 watch a.>WATCHING 2.; O1; Q1 list-tube-used.>USING default.; Q1 watch b.>WATCHING 2.", "")
	judged(t, "O1; Q1 use a.>USING a.; O1; Q1 list-tube-used.>USING a.", "7 Answer")
	judged(t, two+"a.; O2; O1; Q1 reserve.>RESERVED 1 1.a.", "")
	judged(t, two+"a.; O2; Q2 touch 1.>TOUCHED.", "11 Hold 1")
	judged(t, "O1; H1 reserve.; D1; O1; S1 TIMED_OUT.", "4 Answer")
	judged(t, "O1; H1 stats.; D1; O1; T1", "3 Time") // the task is late ahead of the coming
	judged(t, "O1; H1 stats.; D1; Down; O1; T1", "")
}

// P21.1: what is said in pieces, what is no reply, and all that comes behind it.
func TestForm(t *testing.T) {
	judged(t, "O1; H1 stats.stats.; D1; S1 O; S1 ; S1 K 1.; S1 x.; D1; S1 OK 0..", "")
	judged(t, "O1; H1 stats.; D1; S1 OK 0..X; S1 ; S1 OK 0..; T1; O2; Q2 stats.>OK 0..; X1; O1; S1 ", "3 Form, 4 Form, 5 Form")
	judged(t, "O1; H1 stats.; D1; S1 X; T1; T2", "3 Form, 4 Time, 5 Time")
	judged(t, "O1; H1 stats.; D1; S1 OK 0..OK 0..OX", "3 Form, 3 Answer")
	judged(t, "O1; H1 "+put+"; D1; S1 INSERTED 0", "3 Form")
	judged(t, "O1; H1 peek 1.; D1; S1 FOUND 1 65536", "3 Form")
	judged(t, "O1; H1 stats.; D1; S1 OK 1", "")
}

// P21.1, P21.2: a reply answers the task, right or wrong; there is none behind it.
func TestOneReply(t *testing.T) {
	judged(t, "O1; S1 OK 0..", "1 Answer")
	judged(t, "O1; H1 stats.; S1 OK 0..; D1; S1 OK 0..", "2 Answer")
	judged(t, "O1; Q1 stats.>OK 0..OK 0..OK 0..", "3 Answer")
	judged(t, "O1; Q1 stats.>PAUSED.; S1 OK 0..; T1", "3 Answer, 4 Answer")
	judged(t, "O1; H1 stats.; D1; S1 ; T1; S1 OK 0..; T2", "4 Time")
	judged(t, "O1; O2; H1 stats.; D1; S2 OK 0..; S1 OK 0..", "4 Answer")
	judged(t, first+"; Q1 peek 1.>FOUND 1 1.b.; S1 FOUND 1 1.a.", "6 Body 1, 7 Answer") // also one that breaks another rule
}

// What a done command is: the next one of what was heard.
func TestTasks(t *testing.T) {
	long := strings.Repeat("l", 223) + "."
	for _, x := range []struct{ heard, said string }{
		{long, "BAD_FORMAT."}, {strings.Repeat("l", 222) + ".", "UNKNOWN_COMMAND."}, {"put 0 0 1.", "BAD_FORMAT."}, {"put 0 0 1 4294967296.", "BAD_FORMAT."}, {"use -.", "BAD_FORMAT."}, {".", "UNKNOWN_COMMAND."}, {"Put 0 0 1 1.", "UNKNOWN_COMMAND."},
		{"put 0 0 1 101." + strings.Repeat("x", 101) + ".", "JOB_TOO_BIG."}, {"put 0 0 1 101." + strings.Repeat("x", 103), "JOB_TOO_BIG."}, {"put 0 0 1 100." + strings.Repeat("x", 102), "EXPECTED_CRLF."}, {"put 0 0 1 1.abc", "EXPECTED_CRLF."}, {"put 0 0 1 100." + strings.Repeat("x", 100) + ".", "INSERTED 1."},
		{"put 0 0 1 0..", "INSERTED 1."}, {"put 0 0 1 2...", "INSERTED 1."},
	} {
		judged(t, "O1; Q1 "+x.heard+">"+x.said, "")
		judged(t, "O1; H1 "+x.heard+"stats.; D1; S1 "+x.said+"; D1; S1 OK 0..", "")
		for _, other := range []string{"BAD_FORMAT.", "UNKNOWN_COMMAND.", "JOB_TOO_BIG.", "EXPECTED_CRLF.", "INSERTED 1.", "NOT_FOUND.", "DRAINING."} {
			if other != x.said {
				judged(t, "O1; Q1 "+x.heard+">"+other, "3 Answer")
			}
		}
		judged(t, "O1; H1 "+x.heard+"; D1; T1", "3 Time")
	}
}

// A command that is not there, or not whole, is no task; a put's line is taken all the same.
func TestNotWhole(t *testing.T) {
	judged(t, "O1; D1; T1; S1 OK 0..", "1 Answer, 3 Answer")
	judged(t, "O1; H1 stats; D1; T1; H1 .; D1; S1 OK 0..", "2 Answer")
	judged(t, "O1; H1 put 0 0 1 1.; D1; T1; H1 a.stats.; D1; T2; D1; S1 OK 0..", "2 Answer, 5 Answer")
	judged(t, "O1; H1 put 0 0 1 1.abcstats.; D1; S1 EXPECTED_CRLF.; D1; S1 OK 0..", "")
	judged(t, "O1; H1 put 0 0 1 101.; D1; H1 "+strings.Repeat("x", 103)+"stats.; D1; D1; S1 OK 0..", "2 Answer, 4 Answer")
	judged(t, "O1; H1 put 0 0 1 1.; D1; H1 xyzstats.; D1; S1 EXPECTED_CRLF.; D1; S1 OK 0..", "2 Answer, 4 Answer, 5 Answer")
	judged(t, "O1; H1 "+strings.Repeat("l", 300)+"; D1; H1 .stats.; D1; S1 BAD_FORMAT.; D1; S1 OK 0..", "2 Answer")
	judged(t, "O1; H1 reserve.; D1; D1; S1 TIMED_OUT.", "3 Answer, 4 Answer") // the reserve is no longer the last thing that was done
	judged(t, "O1; H1 reserve-with-timeout 1.; D1; D1; T1; T2; S1 TIMED_OUT.", "3 Answer, 6 Answer")
	judged(t, "O1; H1 reserve.stats.; D1; D1; S1 OK 0..; S1 TIMED_OUT.", "5 Answer")
	judged(t, "O1; H1 stats.list-tubes.; D1; D1; S1 OK 0..; T1", "3 Time")
	judged(t, "O1; H1 put 0 0 1 1.; D1; Down; Up; O1; Q1 peek 1.>FOUND 1 1.a.", "2 Answer, 8 Gone 1") // so nothing is lost with it
}

// A quit is no task.
func TestQuit(t *testing.T) {
	judged(t, "O1; H1 quit.; D1; T1; X1; T2", "")
	judged(t, "O1; H1 quit.stats.; D1; D1; S1 OK 0..", "")
	judged(t, "O1; H1 reserve-with-timeout 1.quit.; D1; D1; T1; T2; S1 TIMED_OUT.", "6 Answer")
}

// replies has one of each kind, at the kind's place.
var replies = [api.Replies + 1]string{
	"", "INSERTED 3.", "USING default.", "RESERVED 2 1.a.", "DEADLINE_SOON.", "TIMED_OUT.", "DELETED.", "RELEASED.", "BURIED.", "TOUCHED.", "WATCHING 1.", "NOT_IGNORED.", "FOUND 2 1.a.", "KICKED 1.", "KICKED.", "PAUSED.", "OK 1.x.", "NOT_FOUND.", "OUT_OF_MEMORY.", "BAD_FORMAT.", "UNKNOWN_COMMAND.", "EXPECTED_CRLF.", "JOB_TOO_BIG.", "DRAINING.",
}

// P21.2: each task with each kind of reply: whether that breaks RuleAnswer.
func TestEachReply(t *testing.T) {
	// The connection has reserved 1 of its jobs 1 and 2, for a tick, and uses and watches default.
	const scene = "O1; Q1 put 9 0 1 1.a.>INSERTED 1.; Q1 put 9 9 9 1.a.>INSERTED 2.; Q1 reserve.>RESERVED 1 1.a."
	for _, x := range []struct{ heard, right string }{
		{strings.Repeat("l", 230) + ".", "19"}, {"put 0.", "19"}, {"x.", "20"}, {"put 0 0 1 101." + strings.Repeat("x", 101) + ".", "22"}, {"put 0 0 1 1.abc", "21"},
		{put, "1 18"}, {"use default.", "2"}, {"list-tube-used.", "2"},
		{"reserve.", "3 4"}, {"reserve-with-timeout 0.", "3 4 5"}, {"reserve-with-timeout 1.", "3 4"}, {"reserve-job 2.", "3 17 18"},
		{"delete 2.", "6 17"}, {"touch 2.", "9 17"}, {"bury 2 0.", "8 17"}, {"release 2 0 0.", "7 8 17"},
		{"watch default.", "10"}, {"ignore a.", "10"}, {"ignore default.", "11"},
		{"peek 2.", "12 17"}, {"peek-ready.", "12 17"}, {"peek-delayed.", "12 17"}, {"peek-buried.", "12 17"},
		{"kick 1.", "13"}, {"kick-job 2.", "14 17 18"}, {"stats-job 2.", "16 17"}, {"stats-tube a.", "16 17"},
		{"stats.", "16"}, {"list-tubes.", "16"}, {"list-tubes-watched.", "16"}, {"pause-tube a 1.", "15 17"}, {"quit.", ""},
	} {
		for kind := 1; kind <= api.Replies; kind++ {
			faults, err := All(mild, history(scene+"; Q1 "+x.heard+">"+replies[kind]))
			right := strings.Contains(" "+x.right+" ", fmt.Sprint(" ", kind, " "))
			if right == strings.Contains(words(faults), "Answer") || !right && len(faults) != 1 || err != api.OK {
				t.Errorf("%q told %q: %s, %d", x.heard, replies[kind], words(faults), err)
			}
		}
	}
}

// P21.2: what the fields of a reply must be.
func TestFields(t *testing.T) {
	for _, x := range []struct{ history, heard, right, wrong string }{
		{"O1", "use a.", "USING a.", "USING b.; USING default.; USING A."},
		{"O1", "list-tube-used.", "USING default.", "USING a."},
		{"O1; Q1 use a.>USING a.", "list-tube-used.", "USING a.", "USING default.; USING b."},
		{"O1", "watch a.", "WATCHING 2.", "WATCHING 0.; WATCHING 1.; WATCHING 3.; NOT_IGNORED."},
		{"O1", "watch default.", "WATCHING 1.", "WATCHING 0.; WATCHING 2."},
		{"O1", "ignore a.", "WATCHING 1.", "WATCHING 0.; WATCHING 2.; NOT_IGNORED."},
		{"O1", "ignore default.", "NOT_IGNORED.", "WATCHING 0.; WATCHING 1."},
		{"O1; Q1 watch a.>WATCHING 2.", "ignore default.", "WATCHING 1.", "WATCHING 2.; WATCHING 0.; NOT_IGNORED."},
		{"O1; Q1 watch a.>WATCHING 2.", "ignore b.", "WATCHING 2.", "WATCHING 1.; WATCHING 3.; NOT_IGNORED."},
		{"O1; Q1 watch a.>WATCHING 2.", "watch b.", "WATCHING 3.", "WATCHING 2.; WATCHING 4."},
		{"O1; Q1 watch a.>WATCHING 2.", "watch a.", "WATCHING 2.", "WATCHING 3.; WATCHING 1."},
		{"O1; Q1 watch a.>WATCHING 2.; Q1 ignore default.>WATCHING 1.", "ignore default.", "WATCHING 1.", "NOT_IGNORED.; WATCHING 0.; WATCHING 2."},
		{"O1; Q1 watch a.>WATCHING 2.; Q1 ignore default.>WATCHING 1.", "ignore a.", "NOT_IGNORED.", "WATCHING 0.; WATCHING 1."},
		{"O1", "kick 0.", "KICKED 0.", "KICKED 1.; KICKED."},
		{"O1", "kick 3.", "KICKED 3.", "KICKED 4.; KICKED 4294967295.; KICKED."},
		{"O1", "kick 3.", "KICKED 0.", "NOT_FOUND."},
		{"O1", "kick 4294967295.", "KICKED 4294967295.", "KICKED."},
		{first + "; Q1 put 5 0 9 1.a.>INSERTED 2.", "reserve-job 2.", "RESERVED 2 1.a.", "RESERVED 1 1.a.; RESERVED 3 1.a.; FOUND 2 1.a."},
		{first + "; Q1 put 5 0 9 1.a.>INSERTED 2.", "peek 2.", "FOUND 2 1.a.", "FOUND 1 1.a.; FOUND 3 1.a.; RESERVED 2 1.a."},
		{first, "peek 0.", "NOT_FOUND.", "FOUND 1 1.a."},
		{first, "kick-job 1.", "KICKED.", "KICKED 1.; KICKED 0."},
	} {
		lastBreaks(t, x.history+"; Q1 "+x.heard+">"+x.right, "")
		for _, wrong := range strings.Split(x.wrong, "; ") {
			lastBreaks(t, x.history+"; Q1 "+x.heard+">"+wrong, "Answer")
		}
	}
}

// P21.2: a draining house takes no put, till it falls.
func TestDraining(t *testing.T) {
	judged(t, "O1; Drains; Q1 "+put+">DRAINING.; Q1 "+put+">INSERTED 1.; Q1 "+put+">OUT_OF_MEMORY.", "7 Answer, 10 Answer")
	judged(t, "O1; Q1 "+put+">DRAINING.", "3 Answer")
	judged(t, "O1; Drains; Down; O1; Q1 "+put+">INSERTED 1.; Q1 "+put+">DRAINING.", "9 Answer")
	judged(t, "O1; Drains; X1; T1; Up; O1; Q1 "+put+">DRAINING.", "")
	judged(t, "O1; H1 "+put+"; D1; Drains; S1 DRAINING.", "3 Time") // what counts is the moment of the reply
	judged(t, "O1; Drains; Q1 put 0 0 1 1.abc>EXPECTED_CRLF.; Q1 x.>UNKNOWN_COMMAND.", "")
}

// P21.2: TIMED_OUT by the clock.
func TestTimedOut(t *testing.T) {
	for _, x := range []struct{ history, want string }{
		{"O1; Q1 reserve-with-timeout 0.>TIMED_OUT.", ""},
		{"O1; Q1 reserve-with-timeout 1.>TIMED_OUT.", "Answer"},
		{"O1; T7; H1 reserve-with-timeout 3.; D1; T9; S1 TIMED_OUT.", "Answer"},
		{"O1; T7; H1 reserve-with-timeout 3.; D1; T10; S1 TIMED_OUT.", ""},
		{"O1; T7; H1 reserve-with-timeout 3.; D1; T99; S1 TIMED_OUT.", ""},
		{"O1; H1 reserve-with-timeout 3.; T7; D1; T9; S1 TIMED_OUT.", "Answer"}, // it counts from its doing on
		{"O1; H1 reserve-with-timeout 3.; T7; D1; T10; S1 TIMED_OUT.", ""},
		{"O1; H1 reserve.; D1; T99; S1 TIMED_OUT.", "Answer"},
		{"O1; H1 reserve-with-timeout 4294967295.; D1; T4294967294; S1 TIMED_OUT.", "Answer"},
		{"O1; H1 reserve-with-timeout 4294967295.; D1; T4294967295; S1 TIMED_OUT.", ""},
	} {
		lastBreaks(t, x.history, x.want)
	}
	judged(t, "O1; T1099511627776; H1 reserve-with-timeout 1.; D1; T1099511627776; Refused; Drains; Up1099511627776; O2; X2", "")
	judged(t, "O1; H1 reserve-with-timeout 1.; D1; Up1; S1 TIMED_OUT.", "") // an EvUp tells the clock, too
}

// P21.2: DEADLINE_SOON needs a job that the connection may hold, and that runs out of time.
func TestSoon(t *testing.T) {
	const held = "O1; O2; T10; Q1 put 5 0 3 1.a.>INSERTED 1.; Q1 reserve.>RESERVED 1 1.a.; " // until 13
	for _, x := range []struct{ history, want string }{
		{"O1; Q1 reserve.>DEADLINE_SOON.", "Answer"},
		{held + "T11; Q1 reserve.>DEADLINE_SOON.", "Answer"},
		{held + "T12; Q1 reserve.>DEADLINE_SOON.", ""},
		{held + "T12; Q1 reserve-with-timeout 9.>DEADLINE_SOON.", ""},
		{held + "T12; Q2 reserve.>DEADLINE_SOON.", "Answer"},
		{held + "T13; Q1 reserve.>DEADLINE_SOON.", "Answer"}, // its time is over
		{held + "T11; Q1 touch 1.>TOUCHED.; T12; Q1 reserve.>DEADLINE_SOON.", "Answer"},
		{held + "T11; Q1 touch 1.>TOUCHED.; T13; Q1 reserve.>DEADLINE_SOON.", ""},
		{held + "Q1 bury 1 5.>BURIED.; T12; Q1 reserve.>DEADLINE_SOON.", "Answer"},
		{held + "Q1 release 1 5 1.>RELEASED.; T12; Q1 reserve.>DEADLINE_SOON.", "Answer"},
		{held + "Q1 delete 1.>DELETED.; T12; Q1 reserve.>DEADLINE_SOON.", "Answer"},
		{held + "X1; O1; T12; Q1 reserve.>DEADLINE_SOON.", "Answer"},
		{held + "T13; Q2 reserve.>RESERVED 1 1.a.; T15; Q1 reserve.>DEADLINE_SOON.", "Answer"}, // it has another holder now
		{held + "T13; Q2 reserve.>RESERVED 1 1.a.; T15; Q2 reserve.>DEADLINE_SOON.", ""},
		{held + "Q1 put 5 0 9 1.a.>INSERTED 2.; Q1 reserve.>RESERVED 2 1.a.; T12; Q1 reserve.>DEADLINE_SOON.", ""}, // one of several
		{held + "Q1 put 5 0 9 1.a.>INSERTED 2.; Q1 reserve.>RESERVED 2 1.a.; T11; Q1 reserve.>DEADLINE_SOON.", "Answer"},
		{lostPut + "Q1 reserve.>RESERVED 7 1.z.; Q1 reserve.>DEADLINE_SOON.", ""}, // how long it runs is not known
		{lostPut + "Q1 reserve.>RESERVED 7 1.z.; T99; Q1 reserve.>DEADLINE_SOON.", ""},
		{lostPut + "Q1 reserve.>RESERVED 7 1.z.; T99; O2; Q2 reserve.>DEADLINE_SOON.", "Answer"},
		{lostPut + "Q1 reserve.>RESERVED 7 1.z.; T99; O2; Q2 reserve.>RESERVED 7 1.z.; Q1 reserve.>DEADLINE_SOON.", "Answer"},
	} {
		lastBreaks(t, x.history, x.want)
	}
}

// lostPut is a history in which the power went while a put of z was done; the connection 1 is open behind it.
const lostPut = "O1; H1 put 5 0 9 1.z.; D1; Down; Up; O1; "

// P21.3, RuleAgain: ids are told once, whatever the job is by now.
func TestAgain(t *testing.T) {
	for _, x := range []struct{ history, want string }{
		{first + "; Q1 " + put + ">INSERTED 2.", ""},
		{first + "; O2; Q2 " + put + ">INSERTED 1.", "Again 1"},
		{first + "; Q1 delete 1.>DELETED.; Q1 " + put + ">INSERTED 1.", "Again 1"},
		{first + "; Down; Up; O1; Q1 " + put + ">INSERTED 1.", "Again 1"},
		{first + "; H1 delete 1.; D1; Down; Up; O1; Q1 " + put + ">INSERTED 1.", "Again 1"},
		{lostPut + "Q1 " + put + ">INSERTED 7.", ""},
		{lostPut + "Q1 peek 7.>FOUND 7 1.z.; Q1 " + put + ">INSERTED 7.", "Again 7"},
		{lostPut + "Q1 delete 7.>DELETED.; Q1 " + put + ">INSERTED 7.", "Again 7"},
		{"O1; Q1 " + put + ">INSERTED 1099511627776.; Q1 " + put + ">INSERTED 1099511627776.", "Again 1099511627776"},
	} {
		lastBreaks(t, x.history, x.want)
	}
	// What is told twice changes nothing: not the body, not the tube.
	judged(t, first+"; Q1 use b.>USING b.; Q1 put 9 0 9 1.b.>INSERTED 1.; Q1 peek 1.>FOUND 1 1.a.; Q1 peek-ready.>NOT_FOUND.", "9 Again 1")
	judged(t, first+"; Q1 delete 1.>DELETED.; Q1 "+put+">INSERTED 1.; Q1 peek 1.>FOUND 1 1.a.", "9 Again 1, 12 Gone 1")
}

// P21.3, RuleGone: of each reply that speaks of a job, if that is gone, or never came.
func TestGone(t *testing.T) {
	for _, talk := range []string{"reserve.>RESERVED # 1.a.", "reserve-with-timeout 1.>RESERVED # 1.a.", "reserve-job #.>RESERVED # 1.a.", "peek #.>FOUND # 1.a.", "peek-ready.>FOUND # 1.a.", "peek-delayed.>FOUND # 1.a.", "peek-buried.>FOUND # 1.a.", "delete #.>DELETED.", "release # 0 0.>RELEASED.", "release # 0 0.>BURIED.", "bury # 0.>BURIED.", "touch #.>TOUCHED.", "kick-job #.>KICKED.", "stats-job #.>OK 1.x."} {
		one := strings.ReplaceAll(talk, "#", "1")
		lastBreaks(t, first+"; Q1 delete 1.>DELETED.; Q1 "+one, "Gone 1")
		lastBreaks(t, "O1; Q1 "+one, "Gone 1")
		const lost = "; H1 put 0 0 1 1.a.; D1; Down; O1; "
		lastBreaks(t, first+"; Q1 delete 1.>DELETED."+lost+"Q1 "+one, "Gone 1") // whatever is lost
		lastBreaks(t, first+lost+"Q1 peek 2.>FOUND 2 1.a.; Q1 "+strings.ReplaceAll(talk, "#", "3"), "Gone 3")
	}
	for _, x := range []string{"stats-tube a.>OK 1.x.", "stats.>OK 1.x.", "list-tubes.>OK 1.x.", "list-tubes-watched.>OK 1.x.", "kick 9.>KICKED 9.", "peek 1.>NOT_FOUND.", "delete 1.>NOT_FOUND.", "stats-job 1.>NOT_FOUND.", "kick-job 1.>OUT_OF_MEMORY.", "reserve-job 1.>OUT_OF_MEMORY."} {
		lastBreaks(t, first+"; Q1 delete 1.>DELETED.; Q1 "+x, "")
		lastBreaks(t, "O1; Q1 "+x, "")
	}
	lastBreaks(t, "O1; Q1 delete 0.>DELETED.", "Gone") // the id is 0
	lastBreaks(t, lostPut+"Q1 delete 0.>DELETED.; Q1 delete 0.>DELETED.", "Gone")
}

// P21.3, RuleGone: no more jobs are strange than bodies were lost.
func TestStrange(t *testing.T) {
	const twice = "O1; H1 put 5 0 9 1.z.; D1; Down; O1; H1 put 5 0 9 1.z.; D1; Down; O1; "
	const both = "O1; O2; H1 put 5 0 9 1.y.; H2 put 5 0 9 1.z.; D1; S1 ; D2; Down; O1; " // a put of each of two connections
	for _, x := range []struct{ history, want string }{
		{lostPut + "Q1 peek 7.>FOUND 7 1.z.", ""},
		{lostPut + "Q1 peek 7.>FOUND 7 1.z.; Q1 peek 8.>FOUND 8 1.z.", "Gone 8"},
		{lostPut + "Q1 peek 7.>FOUND 7 1.z.; Q1 peek 7.>FOUND 7 1.z.", ""},
		{lostPut + "Q1 stats-job 7.>OK 0..; Q1 peek 8.>FOUND 8 1.z.", "Gone 8"},
		{lostPut + "Q1 delete 7.>DELETED.; Q1 peek 8.>FOUND 8 1.z.", "Gone 8"}, // that one is gone, and was strange
		{lostPut + "Q1 kick-job 7.>KICKED.; Q1 kick-job 8.>KICKED.", "Gone 8"},
		{lostPut + "Q1 " + put + ">INSERTED 7.; Q1 peek 8.>FOUND 8 1.z.", ""}, // one that was inserted is not strange
		{lostPut + "Q1 peek 7.>NOT_FOUND.; Q1 peek 8.>FOUND 8 1.z.", ""},
		{twice + "Q1 peek 7.>FOUND 7 1.z.; Q1 peek 8.>FOUND 8 1.z.", ""}, // one body, lost twice
		{twice + "Q1 peek 7.>FOUND 7 1.z.; Q1 peek 8.>FOUND 8 1.z.; Q1 peek 9.>FOUND 9 1.z.", "Gone 9"},
		{first + "; Down; O1; Q1 peek 2.>FOUND 2 1.a.", "Gone 2"},              // it was answered, so nothing is lost
		{"O1; H1 put 5 0 9 1.z.; Down; O1; Q1 peek 1.>FOUND 1 1.z.", "Gone 1"}, // it was not done
	} {
		lastBreaks(t, x.history, x.want)
	}
	judged(t, "O1; H1 put 5 0 9 1.z.; D1; X1; Down; O1; Q1 peek 1.>FOUND 1 1.z.", "3 Time, 8 Gone 1") // of one that is not open nothing is lost
	judged(t, both+"Q1 peek 1.>FOUND 1 1.z.; Q1 peek 2.>FOUND 2 1.y.; Q1 peek 3.>FOUND 3 1.y.", "6 Time, 17 Gone 3")
	judged(t, "O1; H1 put 5 0 9 101."+strings.Repeat("x", 103)+"; D1; Down; O1; Q1 delete 1.>DELETED.", "7 Gone 1")
	judged(t, "O1; H1 put 5 0 9 1.abc; D1; Down; O1; Q1 delete 1.>DELETED.", "7 Gone 1")
	judged(t, "O1; Drains; H1 put 5 0 9 1.z.; D1; Down; O1; Q1 peek 1.>FOUND 1 1.z.", "") // all puts
	judged(t, lostPut+"Q1 peek 7.>FOUND 7 1.a.; Q1 peek 8.>FOUND 8 1.z.", "8 Body 7")     // one that breaks a rule is not known by that
	judged(t, lostPut+"Q1 touch 7.>TOUCHED.; Q1 peek 8.>FOUND 8 1.z.", "8 Hold 7")
}

// P21.3, RuleBody: of each reply that has a job's body.
func TestBody(t *testing.T) {
	for _, x := range []string{"reserve.>RESERVED", "reserve-with-timeout 1.>RESERVED", "reserve-job 1.>RESERVED", "peek 1.>FOUND", "peek-ready.>FOUND", "peek-delayed.>FOUND", "peek-buried.>FOUND"} {
		lastBreaks(t, first+"; Q1 "+x+" 1 1.a.", "")
		for _, body := range []string{"1.b.", "0..", "2.aa.", "1.A.", "2.a\x00."} {
			lastBreaks(t, first+"; Q1 "+x+" 1 "+body, "Body 1")
			lastBreaks(t, first+"; H1 put 0 0 1 1.b.; D1; Down; O1; Q1 "+x+" 1 "+body, "Body 1") // also where such a body is lost
		}
		lost := "O1; H1 put 5 0 9 1.a.; D1; Down; O1; "
		lastBreaks(t, lost+"Q1 "+x+" 1 1.a.", "")
		lastBreaks(t, lost+"Q1 "+x+" 1 1.b.", "Body 1")
		lastBreaks(t, lost+"Q1 stats-job 1.>OK 0..; Q1 "+x+" 1 1.b.", "Body 1") // the job is known, its body not
		lastBreaks(t, lost+"Q1 stats-job 1.>OK 0..; Q1 "+x+" 1 1.a.", "")
	}
	const losses = "O1; H1 put 5 0 9 1.y.; D1; Down; O1; H1 put 5 0 9 0..; D1; Down; O1; "
	lastBreaks(t, losses+"Q1 peek 1.>FOUND 1 1.y.; Q1 peek 2.>FOUND 2 1.y.", "") // any of them, as often as it is
	lastBreaks(t, losses+"Q1 peek 1.>FOUND 1 0..; Q1 peek 2.>FOUND 2 1.z.", "Body 2")
	lastBreaks(t, losses+"Q1 peek 1.>FOUND 1 0..; Q1 peek 1.>FOUND 1 1.y.", "Body 1") // it is known by now
	lastBreaks(t, losses+"Q1 reserve.>RESERVED 1 1.y.; Q1 peek 1.>FOUND 1 0..", "Body 1")
	lastBreaks(t, "O1; Q1 put 0 0 1 0..>INSERTED 1.; Q1 peek 1.>FOUND 1 0..", "")
	lastBreaks(t, "O1; Q1 put 0 0 1 0..>INSERTED 1.; Q1 peek 1.>FOUND 1 1.a.", "Body 1")
}

// P21.3, RuleHold: who may be told what of a job that is held.
func TestHold(t *testing.T) {
	const held = "O1; O2; T10; Q1 put 5 0 3 1.a.>INSERTED 1.; Q1 reserve.>RESERVED 1 1.a.; " // by 1, until 13
	for _, x := range []struct {
		talk                        string
		holder, other, over, nobody string // what it breaks if the holder is told it; another one; the holder behind its time; and one where nobody held it
	}{
		{"reserve.>RESERVED 1 1.a.", "Hold 1", "Hold 1", "", ""},
		{"reserve-job 1.>RESERVED 1 1.a.", "Hold 1", "Hold 1", "", ""},
		{"kick-job 1.>KICKED.", "Hold 1", "Hold 1", "", ""},
		{"delete 1.>DELETED.", "", "Hold 1", "", ""},
		{"release 1 5 0.>RELEASED.", "", "Hold 1", "Hold 1", "Hold 1"},
		{"release 1 5 0.>BURIED.", "", "Hold 1", "Hold 1", "Hold 1"},
		{"bury 1 5.>BURIED.", "", "Hold 1", "Hold 1", "Hold 1"},
		{"touch 1.>TOUCHED.", "", "Hold 1", "Hold 1", "Hold 1"},
		{"peek 1.>FOUND 1 1.a.", "", "", "", ""},
		{"stats-job 1.>OK 0..", "", "", "", ""},
	} {
		lastBreaks(t, held+"T12; Q1 "+x.talk, x.holder)
		lastBreaks(t, held+"T12; Q2 "+x.talk, x.other)
		lastBreaks(t, held+"T13; Q1 "+x.talk, x.over)
		lastBreaks(t, held+"T13; T12; Q1 "+x.talk, x.holder) // the clock is what was told last
		lastBreaks(t, held+"Up13; Q2 "+x.talk, x.nobody)
		lastBreaks(t, held+"X1; Q2 "+x.talk, x.nobody)
		lastBreaks(t, held+"X1; O1; Q1 "+x.talk, x.nobody)
		lastBreaks(t, held+"X2; O2; Q1 "+x.talk, x.holder)
		lastBreaks(t, held+"Down12; O1; Q1 "+x.talk, x.nobody)
		lastBreaks(t, held+"T12; Q1 touch 1.>TOUCHED.; T14; Q1 "+x.talk, x.holder)
		lastBreaks(t, held+"T12; Q1 touch 1.>TOUCHED.; T14; Q2 "+x.talk, x.other)
		lastBreaks(t, held+"T12; Q1 touch 1.>TOUCHED.; T15; Q1 "+x.talk, x.over)
		lastBreaks(t, held+"T13; Q2 reserve.>RESERVED 1 1.a.; T15; Q1 "+x.talk, x.other)
		lastBreaks(t, held+"T13; Q2 reserve.>RESERVED 1 1.a.; X1; Q2 "+x.talk, x.holder)
		lastBreaks(t, "O2; Q2 put 5 0 3 1.a.>INSERTED 1.; Q2 "+x.talk, x.nobody)
		for _, end := range []string{"release 1 5 9.>RELEASED.", "release 1 5 9.>BURIED.", "bury 1 5.>BURIED."} {
			lastBreaks(t, held+"Q1 "+end+"; Q1 "+x.talk, x.nobody)
		}
	}
}

// P21.3, RuleHold: of a job whose time to run is not known a tick is sure, and any time may be.
func TestHoldStrange(t *testing.T) {
	const held = "O1; H1 put 5 0 3 1.a.; D1; Down; O1; O2; T10; Q1 reserve.>RESERVED 7 1.a.; "
	for _, x := range []struct{ talk, holder, other, late, laterOther string }{
		{"reserve.>RESERVED 7 1.a.", "Hold 7", "Hold 7", "", ""},
		{"kick-job 7.>KICKED.", "Hold 7", "Hold 7", "", ""},
		{"delete 7.>DELETED.", "", "Hold 7", "", ""},
		{"release 7 5 0.>RELEASED.", "", "Hold 7", "", "Hold 7"},
		{"release 7 5 0.>BURIED.", "", "Hold 7", "", "Hold 7"},
		{"bury 7 5.>BURIED.", "", "Hold 7", "", "Hold 7"},
		{"touch 7.>TOUCHED.", "", "Hold 7", "", "Hold 7"},
	} {
		lastBreaks(t, held+"Q1 "+x.talk, x.holder)
		lastBreaks(t, held+"Q2 "+x.talk, x.other)
		for _, late := range []string{"T11; ", "T12; ", "T999; "} {
			lastBreaks(t, held+late+"Q1 "+x.talk, x.late)
			lastBreaks(t, held+late+"Q2 "+x.talk, x.laterOther)
		}
		lastBreaks(t, held+"T20; Q1 touch 7.>TOUCHED.; Q2 "+x.talk, x.other)
		lastBreaks(t, held+"T20; Q1 touch 7.>TOUCHED.; T21; Q2 "+x.talk, x.laterOther)
		lastBreaks(t, held+"X1; O1; Q1 "+x.talk, x.laterOther)
		lastBreaks(t, held+"Down; O1; Q1 "+x.talk, x.laterOther)
	}
}

// P21.3, RuleTube: which jobs are of which tubes.
func TestTube(t *testing.T) {
	const scene = "O1; Q1 use a.>USING a.; Q1 " + put + ">INSERTED 1.; Q1 use default.>USING default.; "
	for _, x := range []struct{ history, want string }{
		{scene + "Q1 reserve.>RESERVED 1 1.a.", "Tube 1"},
		{scene + "Q1 reserve-with-timeout 1.>RESERVED 1 1.a.", "Tube 1"},
		{scene + "Q1 reserve-job 1.>RESERVED 1 1.a.", ""},
		{scene + "Q1 watch a.>WATCHING 2.; Q1 reserve.>RESERVED 1 1.a.", ""},
		{scene + "Q1 watch a.>WATCHING 2.; Q1 ignore default.>WATCHING 1.; Q1 reserve-with-timeout 1.>RESERVED 1 1.a.", ""},
		{scene + "Q1 watch a.>WATCHING 2.; Q1 ignore a.>WATCHING 1.; Q1 reserve.>RESERVED 1 1.a.", "Tube 1"},
		{scene + "O2; Q2 watch a.>WATCHING 2.; Q1 reserve.>RESERVED 1 1.a.", "Tube 1"},
		{scene + "Q1 peek 1.>FOUND 1 1.a.", ""},
		{scene + "Q1 peek-ready.>FOUND 1 1.a.", "Tube 1"},
		{scene + "Q1 peek-delayed.>FOUND 1 1.a.", "Tube 1"},
		{scene + "Q1 peek-buried.>FOUND 1 1.a.", "Tube 1"},
		{scene + "Q1 watch a.>WATCHING 2.; Q1 peek-ready.>FOUND 1 1.a.", "Tube 1"},
		{scene + "Q1 use a.>USING a.; Q1 peek-ready.>FOUND 1 1.a.", ""},
		{scene + "Q1 use a.>USING a.; Q1 peek-delayed.>FOUND 1 1.a.", ""},
		{scene + "Q1 use a.>USING a.; Q1 peek-buried.>FOUND 1 1.a.", ""},
		{scene + "Q1 use a.>USING a.; Q1 list-tube-used.>USING a.; Q1 peek-ready.>FOUND 1 1.a.", ""},
		{scene + "Down; O1; Q1 reserve.>RESERVED 1 1.a.", "Tube 1"},
		{scene + "Q1 reserve-job 1.>RESERVED 1 1.a.; Q1 release 1 5 0.>RELEASED.; Q1 reserve.>RESERVED 1 1.a.", "Tube 1"},
		{"O1; Q1 use a.>USING a.; H1 " + put + "; D1; Down; O1; Q1 reserve.>RESERVED 1 1.a.", ""}, // its tube is not known
		{"O1; Q1 use a.>USING a.; H1 " + put + "; D1; Down; O1; Q1 peek-ready.>FOUND 1 1.a.; Q1 peek-buried.>FOUND 1 1.a.", ""},
	} {
		lastBreaks(t, x.history, x.want)
	}
}

// P21.3, RuleOrder: of a job that is handed out while a better one is free.
func TestOrder(t *testing.T) {
	puts := func(list ...string) string { // jobs 1, 2 .. by their priorities; one with a tube behind it is put there
		s := "O1; O2; "
		for i, x := range list {
			pri, tube, _ := strings.Cut(x, " ")
			if tube == "" {
				tube = "default"
			}
			s += fmt.Sprintf("Q1 use %s.>USING %s.; Q1 put %s 0 9 1.a.>INSERTED %d.; ", tube, tube, pri, i+1)
		}
		return s
	}
	for _, x := range []struct{ history, want string }{
		{puts("5", "5") + "Q2 reserve.>RESERVED 1 1.a.", ""},
		{puts("5", "5") + "Q2 reserve.>RESERVED 2 1.a.", "Order 2"},
		{puts("5", "5") + "Q2 reserve-with-timeout 1.>RESERVED 2 1.a.", "Order 2"},
		{puts("5", "5") + "Q2 reserve-job 2.>RESERVED 2 1.a.", ""},
		{puts("5", "4") + "Q2 reserve.>RESERVED 2 1.a.", ""},
		{puts("5", "4") + "Q2 reserve.>RESERVED 1 1.a.", "Order 1"},
		{puts("5", "6", "4294967295", "0") + "Q2 reserve.>RESERVED 4 1.a.; Q2 reserve.>RESERVED 1 1.a.; Q2 reserve.>RESERVED 2 1.a.; Q2 reserve.>RESERVED 3 1.a.", ""},
		{puts("5", "6", "7") + "Q2 reserve.>RESERVED 1 1.a.; Q2 reserve.>RESERVED 3 1.a.", "Order 3"},
		{puts("5 b", "6") + "Q2 reserve.>RESERVED 2 1.a.", ""}, // it does not watch b
		{puts("5 b", "6") + "Q2 watch b.>WATCHING 2.; Q2 reserve.>RESERVED 2 1.a.", "Order 2"},
		{puts("5 b", "6") + "Q1 watch b.>WATCHING 2.; Q2 reserve.>RESERVED 2 1.a.", ""},
		{puts("5 b", "6") + "Q2 watch b.>WATCHING 2.; Q2 ignore b.>WATCHING 1.; Q2 reserve.>RESERVED 2 1.a.", ""},
		{puts("6 b", "5") + "Q2 watch b.>WATCHING 2.; Q2 reserve.>RESERVED 2 1.a.", ""},
		{puts("5 b", "6") + "Q2 watch b.>WATCHING 2.; Q1 pause-tube b 1.>PAUSED.; Q2 reserve.>RESERVED 2 1.a.", ""}, // b is marked, from then on
		{puts("5 b", "6") + "Q2 watch b.>WATCHING 2.; Q1 pause-tube b 0.>PAUSED.; T9; Down9; O2; Q2 watch b.>WATCHING 2.; Q2 reserve.>RESERVED 2 1.a.", ""},
		{puts("5 b", "6") + "Q2 watch b.>WATCHING 2.; Q1 pause-tube b 1.>NOT_FOUND.; Q2 reserve.>RESERVED 2 1.a.", "Order 2"},
		{puts("5 b", "6") + "Q2 watch b.>WATCHING 2.; Q1 pause-tube default 1.>PAUSED.; Q2 reserve.>RESERVED 2 1.a.", "Order 2"},
		{puts("5 b", "6") + "Q2 watch b.>WATCHING 2.; Down; O2; Q2 reserve.>RESERVED 2 1.a.", ""}, // it watches default alone
		{puts("5 b", "6") + "Down; O2; Q2 watch b.>WATCHING 2.; Q2 reserve.>RESERVED 2 1.a.", "Order 2"},
		{lostPut + "Q1 " + put + ">INSERTED 8.; Q1 reserve.>RESERVED 7 1.z.", ""}, // its priority is not known
		{puts("5", "6") + "Q1 reserve-job 2.>RESERVED 2 1.a.; Q1 release 2 4 0.>RELEASED.; Q2 reserve.>RESERVED 1 1.a.", "Order 1"},
		{puts("5", "6") + "Q1 reserve-job 2.>RESERVED 2 1.a.; Q1 release 2 4 0.>RELEASED.; Q2 reserve.>RESERVED 2 1.a.", ""},
		{puts("5", "6") + "Q1 reserve-job 1.>RESERVED 1 1.a.; Q1 release 1 7 0.>RELEASED.; Q2 reserve.>RESERVED 1 1.a.", "Order 1"},
		{puts("5", "6") + "Q1 reserve-job 1.>RESERVED 1 1.a.; Q1 release 1 4 1.>RELEASED.; Q2 reserve.>RESERVED 2 1.a.", ""}, // it is delayed
		{puts("5", "6") + "Q1 reserve-job 1.>RESERVED 1 1.a.; Q1 release 1 4 0.>BURIED.; Q2 reserve.>RESERVED 2 1.a.", ""},
		{puts("5", "6") + "Q1 reserve-job 1.>RESERVED 1 1.a.; Q1 bury 1 4.>BURIED.; Q2 reserve.>RESERVED 2 1.a.", ""},
		{puts("5", "6") + "Q1 reserve-job 1.>RESERVED 1 1.a.; Q1 bury 1 4.>BURIED.; Q1 kick-job 1.>KICKED.; Q2 reserve.>RESERVED 2 1.a.", "Order 2"},
		{puts("5", "6") + "Q1 reserve-job 1.>RESERVED 1 1.a.; Q1 bury 1 7.>BURIED.; Q1 kick-job 1.>KICKED.; Q2 reserve.>RESERVED 1 1.a.", "Order 1"}, // its priority is that of the bury
		{puts("5", "6") + "Q1 reserve-job 1.>RESERVED 1 1.a.; Q1 bury 1 4.>BURIED.; Q1 kick 1.>KICKED 1.; Q2 reserve.>RESERVED 2 1.a.", ""},          // which one was kicked is not known
		{puts("5", "6") + "Q1 reserve-job 1.>RESERVED 1 1.a.; X1; Q2 reserve.>RESERVED 2 1.a.", ""},                                                  // it is ready, and not fresh
		{puts("5", "6") + "Q1 delete 1.>DELETED.; Q2 reserve.>RESERVED 2 1.a.", ""},
		{"O1; Q1 put 4 1 9 1.a.>INSERTED 1.; Q1 " + put + ">INSERTED 2.; T9; Q1 reserve.>RESERVED 2 1.a.", ""}, // it was delayed
		{"O1; Q1 put 4 1 9 1.a.>INSERTED 1.; Q1 " + put + ">INSERTED 2.; Q1 kick-job 1.>KICKED.; Q1 reserve.>RESERVED 2 1.a.", "Order 2"},
	} {
		lastBreaks(t, x.history, x.want)
	}
}

// P21.3, RuleOrder: of a connection that is told that there is nothing, while something is free.
func TestOrderOfNothing(t *testing.T) {
	const held = "O1; O2; Q1 use b.>USING b.; Q1 put 5 0 1 1.a.>INSERTED 1.; Q2 watch b.>WATCHING 2.; Q2 reserve.>RESERVED 1 1.a.; "
	for _, x := range []struct{ history, want string }{
		{first + "; Q1 reserve-with-timeout 0.>TIMED_OUT.", "Order"},
		{first + "; Q1 watch b.>WATCHING 2.; Q1 ignore default.>WATCHING 1.; Q1 reserve-with-timeout 0.>TIMED_OUT.", ""},
		{first + "; Q1 pause-tube default 9.>PAUSED.; Q1 reserve-with-timeout 0.>TIMED_OUT.", ""},
		{first + "; Q1 reserve.>RESERVED 1 1.a.; Q1 reserve-with-timeout 0.>TIMED_OUT.", ""},
		{held + "Q2 reserve.>DEADLINE_SOON.", ""},
		{held + "Q1 " + put + ">INSERTED 2.; Q2 reserve.>DEADLINE_SOON.", "Order"},
		{held + "Q1 " + put + ">INSERTED 2.; Q2 ignore b.>WATCHING 1.; Q2 reserve.>DEADLINE_SOON.", ""},
		{held + "Q1 put 5 1 9 1.a.>INSERTED 2.; Q2 reserve.>DEADLINE_SOON.", ""},
	} {
		lastBreaks(t, x.history, x.want)
	}
}

// P21.3, RuleLost: NOT_FOUND of what must be there.
func TestLost(t *testing.T) {
	const (
		one   = "O1; O2; Q1 put 5 0 3 1.a.>INSERTED 1.; "     // fresh
		late  = "O1; O2; Q1 put 5 1 3 1.a.>INSERTED 1.; "     // delayed
		held  = one + "Q1 reserve.>RESERVED 1 1.a.; "         // by 1, until 3
		bury  = held + "Q1 bury 1 5.>BURIED.; "               //
		gone  = one + "Q1 delete 1.>DELETED.; "               //
		doubt = one + "H1 delete 1.; D1; Down; O1; O2; "      //
		crash = one + "H1 kick-job 1.; D1; Down; O1; O2; "    // there, and no longer fresh
		other = lostPut + "O2; Q2 stats-job 1.>OK 0..; "      // strange
		taken = lostPut + "O2; Q1 reserve.>RESERVED 1 1.z.; " // strange, and held by 1, for a tick
	)
	all := []string{one, late, held, bury, gone, doubt, crash, other, taken, "O1; O2; "}
	for _, x := range []struct{ heard, lost string }{ // of which of them it is a fault: 0 to 9
		{"peek 1.", "01236 78"},
		{"stats-job 1.", "01236 78"},
		{"delete 1.", "0 2 8"},
		{"reserve-job 1.", "0"},
		{"release 1 0 0.", "2 8"},
		{"bury 1 0.", "2 8"},
		{"touch 1.", "2 8"},
		{"kick-job 1.", ""},
		{"peek 2.", ""}, {"delete 2.", ""}, {"peek 0.", ""},
	} {
		for i, scene := range all {
			want := ""
			if strings.Contains(x.lost, fmt.Sprint(i)) {
				want = "Lost 1"
			}
			lastBreaks(t, scene+"Q1 "+x.heard+">NOT_FOUND.", want)
		}
	}
	for _, heard := range []string{"delete 1.", "release 1 0 0.", "bury 1 0.", "touch 1."} {
		lastBreaks(t, held+"Q2 "+heard+">NOT_FOUND.", "")
		lastBreaks(t, held+"T2; Q1 "+heard+">NOT_FOUND.", "Lost 1")
		lastBreaks(t, held+"T3; Q1 "+heard+">NOT_FOUND.", "")
		lastBreaks(t, held+"X1; O1; Q1 "+heard+">NOT_FOUND.", "")
		lastBreaks(t, taken+"T1; Q1 "+heard+">NOT_FOUND.", "")
	}
	lastBreaks(t, one+"Q2 delete 1.>NOT_FOUND.", "Lost 1")
	lastBreaks(t, one+"Q2 reserve-job 1.>OUT_OF_MEMORY.", "")
	lastBreaks(t, doubt+"Q1 peek 1.>FOUND 1 1.a.; Q1 peek 1.>NOT_FOUND.", "Lost 1") // it is not doubtful any more
	lastBreaks(t, doubt+"Q1 reserve.>RESERVED 1 1.a.; Q1 stats-job 1.>NOT_FOUND.", "Lost 1")
	lastBreaks(t, doubt+"Q1 stats-job 1.>OK 0..; Q1 stats-job 1.>NOT_FOUND.", "") // of a stats-job that is not said
	lastBreaks(t, doubt+"Q1 kick-job 1.>KICKED.; Q1 peek 1.>NOT_FOUND.", "")
}

// P21.3, RuleLost: a peek-ready finds what is ready in the tube that is used, marked or not.
func TestLostReady(t *testing.T) {
	for _, x := range []struct{ history, want string }{
		{"O1; Q1 peek-ready.>NOT_FOUND.", ""},
		{first + "; Q1 peek-ready.>NOT_FOUND.", "Lost"},
		{first + "; Q1 peek-delayed.>NOT_FOUND.", ""},
		{first + "; Q1 peek-buried.>NOT_FOUND.", ""},
		{first + "; Q1 pause-tube default 9.>PAUSED.; Q1 peek-ready.>NOT_FOUND.", "Lost"},
		{first + "; Q1 use b.>USING b.; Q1 peek-ready.>NOT_FOUND.", ""},
		{first + "; Q1 watch b.>WATCHING 2.; Q1 ignore default.>WATCHING 1.; Q1 peek-ready.>NOT_FOUND.", "Lost"},
		{first + "; Q1 reserve.>RESERVED 1 1.a.; Q1 peek-ready.>NOT_FOUND.", ""},
		{first + "; Q1 " + put + ">INSERTED 2.; Q1 reserve.>RESERVED 1 1.a.; Q1 peek-ready.>NOT_FOUND.", "Lost"},
		{first + "; Q1 delete 1.>DELETED.; Q1 peek-ready.>NOT_FOUND.", ""},
		{"O1; Q1 put 5 1 9 1.a.>INSERTED 1.; Q1 peek-ready.>NOT_FOUND.", ""},
		{lostPut + "Q1 peek-ready.>FOUND 7 1.z.; Q1 peek-ready.>NOT_FOUND.", ""},
		{lostPut + "Q1 kick-job 7.>KICKED.; Q1 peek-ready.>NOT_FOUND.", ""},
		{lostPut + "Q1 stats-job 0.>OK 0..; Q1 peek-ready.>NOT_FOUND.", ""}, // a job with the id 0 is no matter
		{lostPut + "Q1 reserve.>RESERVED 7 1.z.; Q1 release 7 5 0.>RELEASED.; Q1 peek-ready.>NOT_FOUND.", ""},
		{first + "; Q1 reserve.>RESERVED 1 1.a.; Q1 release 1 5 0.>RELEASED.; Q1 peek-ready.>NOT_FOUND.", "Lost"},
		{first + "; Q1 reserve.>RESERVED 1 1.a.; Q1 release 1 5 1.>RELEASED.; Q1 peek-ready.>NOT_FOUND.", ""},
		{first + "; Q1 reserve.>RESERVED 1 1.a.; Q1 bury 1 5.>BURIED.; Q1 peek-ready.>NOT_FOUND.", ""},
		{first + "; Q1 reserve.>RESERVED 1 1.a.; Q1 bury 1 5.>BURIED.; Q1 kick-job 1.>KICKED.; Q1 peek-ready.>NOT_FOUND.", "Lost"},
		{first + "; Q1 kick-job 1.>KICKED.; Q1 kick-job 1.>KICKED.; Q1 delete 1.>DELETED.; Q1 peek-ready.>NOT_FOUND.", ""},
	} {
		lastBreaks(t, x.history, x.want)
	}
}

// At an EvDown: what each task makes of its job.
func TestDown(t *testing.T) {
	const one = "O1; O2; Q1 " + put + ">INSERTED 1.; "
	for _, heard := range []string{"delete 1.", "release 1 5 0.", "bury 1 5.", "kick-job 1.", "reserve-job 1."} {
		down := one + "H2 " + heard + "; D2; Down; O1; "
		lastBreaks(t, down+"Q1 peek-ready.>NOT_FOUND.", "") // it is not fresh any more
		lastBreaks(t, down+"Q1 reserve-with-timeout 0.>TIMED_OUT.", "")
		lastBreaks(t, down+"H1 reserve.; D1; T1", "")
		lastBreaks(t, down+"Q1 peek 1.>FOUND 1 1.b.", "Body 1")
		wantRank, wantThere := "", "Lost 1"
		if heard == "delete 1." {
			wantRank, wantThere = "Order 1", ""
		}
		lastBreaks(t, down+"Q1 put 4 0 9 1.a.>INSERTED 2.; Q1 reserve.>RESERVED 1 1.a.", wantRank) // whether its priority is known
		lastBreaks(t, down+"Q1 peek 1.>NOT_FOUND.", wantThere)
		// A kick makes it fresh, if its priority is known; else a release has to come first.
		lastBreaks(t, down+"Q1 kick-job 1.>KICKED.; Q1 peek-ready.>NOT_FOUND.", map[bool]string{true: "Lost"}[heard == "delete 1."])
		lastBreaks(t, down+"Q1 reserve.>RESERVED 1 1.a.; Q1 release 1 3 0.>RELEASED.; Q1 peek-ready.>NOT_FOUND.", "Lost")
		lastBreaks(t, down+"Q1 reserve.>RESERVED 1 1.a.; Q1 bury 1 3.>BURIED.; Q1 kick-job 1.>KICKED.; Q1 peek-ready.>NOT_FOUND.", "Lost")
		lastBreaks(t, one+"Down; O1; Q1 peek-ready.>NOT_FOUND.", "Lost")               // a crash alone is no matter
		lastBreaks(t, one+"H2 "+heard+"; Down; O1; Q1 peek-ready.>NOT_FOUND.", "Lost") // nor a command that was not done
		lastBreaks(t, strings.ReplaceAll(down, heard, strings.Replace(heard, "1", "2", 1))+"Q1 peek-ready.>NOT_FOUND.", "Lost")
	}
	for _, heard := range []string{"touch 1.", "peek 1.", "stats-job 1.", "reserve.", "kick 9.", "pause-tube default 9.", "use a.", "stats."} {
		down := one + "H2 " + heard + "; D2; "
		if heard == "reserve." {
			down = one + "Q2 watch b.>WATCHING 2.; Q2 ignore default.>WATCHING 1.; H2 reserve.; D2; "
		}
		lastBreaks(t, down+"Down; O1; Q1 peek-ready.>NOT_FOUND.", "Lost")
		lastBreaks(t, down+"Down; O1; Q1 reserve-with-timeout 0.>TIMED_OUT.", "Order")
		lastBreaks(t, down+"Down; O1; Q1 put 4 0 9 1.a.>INSERTED 2.; Q1 reserve.>RESERVED 1 1.a.", "Order 1")
	}
	judged(t, one+"H2 delete 9.; D2; Down; O1; Q1 "+put+">INSERTED 9.; Q1 peek 9.>NOT_FOUND.", "14 Lost 9") // one that was not known is no matter
	// Of all open connections.
	judged(t, one+"Q1 "+put+">INSERTED 2.; H1 delete 1.; H2 delete 2.; D1; D2; Down; O1; Q1 peek 1.>NOT_FOUND.; Q1 peek 2.>NOT_FOUND.", "11 Time")
}

// An EvDown, and an EvUp, tell the clock.
func TestClock(t *testing.T) {
	const held = "O1; O2; T10; Q1 put 5 0 3 1.a.>INSERTED 1.; Q1 reserve.>RESERVED 1 1.a.; "
	for _, clock := range []string{"T13", "Up13", "T20; T13", "Up99; T13", "Down99; O1; O2; Up10"} {
		lastBreaks(t, held+clock+"; Q2 reserve.>RESERVED 1 1.a.", "")
	}
	for _, clock := range []string{"T12", "Up12", "T20; Up12", "T0", "Up0"} {
		lastBreaks(t, held+clock+"; Q2 reserve.>RESERVED 1 1.a.", "Hold 1")
	}
	lastBreaks(t, "O1; Q1 put 5 0 3 1.a.>INSERTED 1.; Down7; O1; O2; Q1 reserve.>RESERVED 1 1.a.; T9; Q2 reserve.>RESERVED 1 1.a.", "Hold 1")
	lastBreaks(t, "O1; Q1 put 5 0 3 1.a.>INSERTED 1.; Down7; O1; O2; Q1 reserve.>RESERVED 1 1.a.; T10; Q2 reserve.>RESERVED 1 1.a.", "")
	// It is 0 at first; other events' Nows are not looked at.
	l := history("O1; Q1 put 5 0 3 1.a.>INSERTED 1.; O2; Q1 reserve.>RESERVED 1 1.a.; T2; Q2 delete 1.>DELETED.")
	for i := range l {
		if l[i].Kind != api.EvTicked {
			l[i].Now = 50 + i
		}
	}
	wantAll(t, l, fmt.Sprint(len(l)-1, " Hold 1"))
}

// P21.5: which tasks are late, and which events tell it.
func TestTime(t *testing.T) {
	events := []string{"O2", "H1 x", "H2 x", "X3", "T0", "Up0", "Refused", "Drains"}
	for _, e := range events {
		for _, heard := range []string{put, "use a.", "reserve-job 1.", "delete 1.", "release 1 0 0.", "bury 1 0.", "touch 1.", "watch a.", "ignore a.", "peek 1.", "peek-ready.", "kick 1.", "kick-job 1.", "stats-job 1.", "stats.", "list-tubes.", "list-tube-used.", "pause-tube a 1.", "x.", "put.", "put 0 0 1 1.abc", "reserve-with-timeout 0."} {
			lastBreaks(t, "O1; H1 "+heard+"; D1; "+e, "Time")
			lastBreaks(t, "O1; H1 "+heard+"; "+e, "") // it is not done
		}
		lastBreaks(t, "O1; H1 reserve.; D1; "+e, "")
		lastBreaks(t, "O1; H1 reserve-with-timeout 1.; D1; "+e, "")
		lastBreaks(t, "O1; H1 reserve-with-timeout 1.; D1; T1; "+e, "Time")
		lastBreaks(t, "O1; T5; H1 reserve-with-timeout 3.; D1; T7; "+e, "")
		lastBreaks(t, "O1; T5; H1 reserve-with-timeout 3.; D1; T8; "+e, "Time")
		for _, heard := range []string{"reserve.", "reserve-with-timeout 9."} {
			lastBreaks(t, first+"; H1 "+heard+"; D1; "+e, "Time")
			lastBreaks(t, first+"; Q1 watch b.>WATCHING 2.; Q1 ignore default.>WATCHING 1.; H1 "+heard+"; D1; "+e, "")
			lastBreaks(t, first+"; Q1 pause-tube default 1.>PAUSED.; H1 "+heard+"; D1; "+e, "")
			lastBreaks(t, "O1; O2; H1 "+heard+"; D1; Q2 "+put+">INSERTED 1.; "+e, "Time")
			lastBreaks(t, "O1; O2; H1 "+heard+"; D1; Q2 put 0 1 1 1.x.>INSERTED 1.; "+e, "")
			lastBreaks(t, "O1; O2; H1 "+heard+"; D1; Q2 use b.>USING b.; Q2 "+put+">INSERTED 1.; "+e, "")
			lastBreaks(t, "O1; O2; H1 "+heard+"; D1; Q2 "+put+">INSERTED 1.; S1 RESERVED 1 1.a.; "+e, "")
		}
	}
	judged(t, "O1; H1 stats.; D1; X1; T1", "3 Time") // also its own going
	judged(t, "O1; O2; H1 stats.stats.; D1; D1; D2", "4 Time, 5 Answer, 5 Time")
	judged(t, "O1; O2; H1 stats.; H2 stats.; D1; D2; S2 OK 0..; T1; S1 OK 0..; T2", "5 Time, 7 Time")
	judged(t, "O1; H1 stats.; D1; S1 ; Down; T1", "") // what is said, and a crash, tell nothing
	judged(t, "O63; H63 stats.; D63; T1; T2", "3 Time, 4 Time")
	judged(t, "O0; H0 stats.; D0; T1", "3 Time")
}

// P21.4: a connection that waits is late as soon as something is free for it, by whatever.
func TestFree(t *testing.T) {
	const waits = "O1; O2; Q1 put 5 1 9 1.a.>INSERTED 1.; H2 reserve.; D2; "
	for _, x := range []struct{ history, want string }{
		{waits + "T1", ""},
		{waits + "Q1 kick-job 1.>KICKED.; T1", "Time"},
		{waits + "Q1 kick-job 1.>NOT_FOUND.; T1", ""},
		{waits + "Q1 kick 1.>KICKED 1.; T1", ""},
		{waits + "Q1 kick-job 1.>KICKED.; S2 RESERVED 1 1.a.; T1", ""},
		{waits + "Q1 reserve-job 1.>RESERVED 1 1.a.; T1", ""},
		{waits + "Q1 reserve-job 1.>RESERVED 1 1.a.; Q1 release 1 5 0.>RELEASED.; T1", "Time"},
		{waits + "Q1 reserve-job 1.>RESERVED 1 1.a.; Q1 release 1 5 1.>RELEASED.; T1", ""},
		{waits + "Q1 reserve-job 1.>RESERVED 1 1.a.; X1; T1", ""},
		{waits + "Q1 " + put + ">INSERTED 2.; S2 RESERVED 2 1.a.; T1", ""},
	} {
		lastBreaks(t, x.history, x.want)
	}
	// Two watch the tube, and one gets it; then nothing is free for the other one.
	judged(t, "O1; O2; O3; H1 reserve.; H2 reserve.; D1; D2; Q3 "+put+">INSERTED 1.; S1 RESERVED 1 1.a.; T1", "")
	judged(t, "O1; O2; O3; H1 reserve.; H2 reserve.; D1; D2; Q3 "+put+">INSERTED 1.; T1; Q3 pause-tube default 1.>PAUSED.; T2", "10 Time, 11 Time, 12 Time")
	judged(t, "O1; O3; Q3 "+put+">INSERTED 1.; Q3 "+put+">INSERTED 2.; Q3 delete 1.>DELETED.; H1 reserve.; D1; T1; Q3 delete 2.>DELETED.; T2", "13 Time, 14 Time, 15 Time")
}

// P21.4: what is free for a connection, where it watches what it does already, ignores what it does not watch, and where a tube that is watched is empty.
func TestFreeByTubes(t *testing.T) {
	const job = "Q2 " + put + ">INSERTED 1.; "
	for _, x := range []struct{ history, want string }{
		{"O1; O2; " + job + "Q1 watch default.>WATCHING 1.; Q2 delete 1.>DELETED.; H1 reserve.; D1; T1", ""},
		{"O1; O2; " + job + "Q1 watch default.>WATCHING 1.; H1 reserve.; D1; T1", "Time"},
		{"O1; O2; Q1 watch b.>WATCHING 2.; Q1 ignore b.>WATCHING 1.; " + job + "H1 reserve.; D1; T1", "Time"},
		{"O1; O2; Q1 ignore b.>WATCHING 1.; " + job + "H1 reserve.; D1; T1", "Time"},
		{"O1; O2; " + job + "Q1 watch b.>WATCHING 2.; Q1 ignore b.>WATCHING 1.; H1 reserve.; D1; T1", "Time"},
		{"O1; O2; " + job + "Q1 watch b.>WATCHING 2.; Q1 ignore default.>WATCHING 1.; Q1 ignore default.>WATCHING 1.; H1 reserve.; D1; T1", ""},
		{"O1; O2; " + job + "Q1 watch b.>WATCHING 2.; Q1 ignore default.>WATCHING 1.; Q1 watch default.>WATCHING 2.; H1 reserve.; D1; T1", "Time"},
		{"O1; O2; Q2 use b.>USING b.; " + job + "H1 reserve.; D1; T1", ""},
		{"O1; O2; Q2 use b.>USING b.; " + job + "Q1 ignore b.>WATCHING 1.; Q1 watch b.>WATCHING 2.; H1 reserve.; D1; T1", "Time"},
		{"O1; O2; Q2 use b.>USING b.; " + job + "Q1 ignore b.>WATCHING 1.; H1 reserve.; D1; T1", ""},
		{"O1; O2; Q1 watch b.>WATCHING 2.; " + job + "Q2 use b.>USING b.; Q2 " + put + ">INSERTED 2.; Q2 delete 2.>DELETED.; H1 reserve.; D1; T1", "Time"},
		{"O1; O2; Q1 watch b.>WATCHING 2.; " + job + "Q2 use b.>USING b.; Q2 " + put + ">INSERTED 2.; Q2 delete 2.>DELETED.; Q2 delete 1.>DELETED.; H1 reserve.; D1; T1", ""},
	} {
		lastBreaks(t, x.history, x.want)
	}
}

// P21.4: a job whose tube is not known never is fresh.
func TestStrangeNeverFresh(t *testing.T) {
	const held = lostPut + "Q1 reserve.>RESERVED 7 1.z.; "
	for _, way := range []string{"Q1 release 7 5 0.>RELEASED.; ", "Q1 bury 7 5.>BURIED.; Q1 kick-job 7.>KICKED.; ", "Q1 release 7 5 1.>RELEASED.; Q1 kick-job 7.>KICKED.; "} {
		lastBreaks(t, held+way+"Q1 delete 7.>NOT_FOUND.", "")
		lastBreaks(t, held+way+"Q1 reserve-job 7.>NOT_FOUND.", "")
		lastBreaks(t, held+way+"Q1 peek-ready.>NOT_FOUND.", "")
		lastBreaks(t, held+way+"H1 reserve.; D1; T1", "")
		lastBreaks(t, held+way+"Q1 put 4 0 9 1.a.>INSERTED 8.; Q1 reserve.>RESERVED 7 1.z.", "Order 7") // its priority is known by then
		lastBreaks(t, held+way+"Q1 put 5 0 9 1.a.>INSERTED 8.; Q1 reserve.>RESERVED 7 1.z.", "")
	}
}

// What is judged where the clock goes back, as it does in no world.
func TestClockBack(t *testing.T) {
	// Job 1 was kicked when its holder's time was over, so it is fresh; then its time is not over.
	const back = "O1; T10; Q1 put 5 0 3 1.a.>INSERTED 1.; Q1 put 6 0 3 1.a.>INSERTED 2.; Q1 reserve.>RESERVED 1 1.a.; T13; Q1 kick-job 1.>KICKED.; T12; "
	for _, x := range []struct{ history, want string }{
		{back + "Q1 reserve.>RESERVED 2 1.a.", "Order 2"},
		{back + "Q1 bury 1 5.>BURIED.; Q1 reserve.>RESERVED 2 1.a.", ""},
		{back + "Q1 bury 1 4.>BURIED.; Q1 reserve.>RESERVED 2 1.a.; Q1 reserve-with-timeout 0.>TIMED_OUT.", ""},
		{back + "Q1 release 1 5 1.>RELEASED.; Q1 reserve.>RESERVED 2 1.a.; Q1 peek-ready.>NOT_FOUND.", ""},
		{back + "Q1 release 1 7 0.>RELEASED.; Q1 reserve.>RESERVED 2 1.a.", ""},
		{back + "Q1 release 1 7 0.>RELEASED.; Q1 reserve.>RESERVED 1 1.a.", "Order 1"},
		{back + "Q1 release 1 7 0.>RELEASED.; Q1 reserve.>RESERVED 2 1.a.; Q1 reserve.>RESERVED 1 1.a.; Q1 reserve-with-timeout 0.>TIMED_OUT.", ""},
		{back + "Q1 delete 1.>DELETED.; Q1 reserve.>RESERVED 2 1.a.; Q1 reserve-with-timeout 0.>TIMED_OUT.", ""},
		{lostPut + "T10; Q1 reserve.>RESERVED 7 1.z.; T5; Q1 reserve.>DEADLINE_SOON.", ""}, // how long it runs is not known
		{first + "; T10; Q1 reserve.>RESERVED 1 1.a.; T5; Q1 reserve.>DEADLINE_SOON.", "Answer"},
	} {
		lastBreaks(t, x.history, x.want)
	}
	judged(t, "O1; T10; H1 reserve-with-timeout 3.; D1; T20; T12; Drains", "5 Time") // ahead of the T12 it is late, behind that it is not
}

// P21.4: what uses, watches and ignores do is seen by what comes later; what a wrong reply would do is not.
func TestTubesFollow(t *testing.T) {
	judged(t, "O1; Q1 use a.>USING b.; Q1 list-tube-used.>USING default.", "3 Answer")
	judged(t, "O1; Q1 watch a.>WATCHING 3.; Q1 watch b.>WATCHING 2.", "3 Answer")
	judged(t, "O1; Q1 watch a.>WATCHING 2.; Q1 ignore a.>WATCHING 2.; Q1 ignore a.>WATCHING 1.; Q1 ignore a.>WATCHING 1.", "6 Answer")
	judged(t, "O1; Q1 watch a.>WATCHING 2.; Q1 watch a.>WATCHING 2.; Q1 ignore default.>WATCHING 1.; Q1 ignore a.>NOT_IGNORED.; Q1 ignore default.>WATCHING 1.; Q1 watch default.>WATCHING 2.", "")
	judged(t, "O1; O2; Q1 use a.>USING a.; Q2 list-tube-used.>USING default.; Q2 watch b.>WATCHING 2.; Q1 watch c.>WATCHING 2.", "")
	judged(t, "O1; Q1 use a.>USING a.; X1; O1; Q1 list-tube-used.>USING default.; Down; O1; Q1 list-tube-used.>USING default.", "")
}

// P21.3, P21.4: a reply that breaks a rule does nothing but answer.
func TestBrokenDoesNothing(t *testing.T) {
	const scene = "O1; O2; Q1 put 5 0 9 1.a.>INSERTED 1.; Q1 put 6 0 9 1.b.>INSERTED 2.; "
	for _, x := range []struct{ history, want string }{
		{scene + "Q2 reserve.>RESERVED 2 1.b.; Q1 reserve-job 2.>NOT_FOUND.", "10 Order 2, 13 Lost 2"},                                                            // 2 is fresh still, and nobody holds it
		{scene + "Q2 reserve.>RESERVED 2 1.b.; Q2 touch 2.>TOUCHED.", "10 Order 2, 13 Hold 2"},                                                                    //
		{scene + "Q2 reserve.>RESERVED 1 1.a.; Q1 delete 1.>DELETED.; Q1 peek 1.>NOT_FOUND.", "13 Hold 1, 16 Lost 1"},                                             // it is not gone
		{scene + "Q2 reserve.>RESERVED 1 1.a.; Q1 release 1 9 0.>RELEASED.; Q2 touch 1.>TOUCHED.", "13 Hold 1"},                                                   // 2 holds it still
		{scene + "Q2 reserve.>RESERVED 1 1.a.; Q1 bury 1 9.>BURIED.; Q2 release 1 5 0.>RELEASED.", "13 Hold 1"},                                                   //
		{scene + "Q2 reserve.>RESERVED 1 1.a.; Q1 kick-job 1.>KICKED.; Q1 reserve.>RESERVED 2 1.b.", "13 Hold 1"},                                                 // it is not fresh
		{scene + "Q2 reserve.>RESERVED 1 1.a.; T8; Q1 touch 1.>TOUCHED.; T9; Q2 touch 1.>NOT_FOUND.", "14 Hold 1"},                                                // its time is over all the same
		{scene + "Q2 peek 1.>FOUND 1 1.x.; Q2 peek 1.>FOUND 1 1.x.; Q2 peek 1.>FOUND 1 1.a.", "10 Body 1, 13 Body 1"},                                             //
		{scene + "H2 delete 1.; D2; Down; O2; Q2 peek 1.>FOUND 1 1.x.; Q2 peek 1.>NOT_FOUND.", "14 Body 1"},                                                       // it is doubtful still
		{scene + "Q2 delete 1.>NOT_FOUND.; Q2 peek-ready.>NOT_FOUND.; Q2 reserve.>RESERVED 1 1.a.", "10 Lost 1, 13 Lost"},                                         //
		{scene + "Q2 reserve-with-timeout 0.>TIMED_OUT.; Q2 reserve.>RESERVED 1 1.a.", "10 Order"},                                                                //
		{lostPut + "Q1 reserve.>RESERVED 7 1.x.; Q1 touch 7.>TOUCHED.; Q1 peek 8.>FOUND 8 1.z.", "8 Body 7, 11 Hold 7"},                                           // 7 is not known
		{lostPut + "Q1 delete 7.>DELETED.; Q1 delete 7.>DELETED.; Q1 peek 7.>NOT_FOUND.", "11 Gone 7"},                                                            //
		{scene + "Q1 reserve.>RESERVED 1 1.a.; T5; Q1 reserve.>RESERVED 1 1.b.; T9; Q1 touch 1.>NOT_FOUND.; Q2 reserve.>RESERVED 1 1.a.", "14 Body 1, 14 Hold 1"}, // also where it breaks two
	} {
		judged(t, x.history, x.want)
	}
}

// P21.6: of an event each rule is told once, rising, with the id of the first reply that breaks it.
func TestSeveralRules(t *testing.T) {
	const scene = "O1; O2; Q1 put 5 0 9 1.a.>INSERTED 1.; Q1 use b.>USING b.; Q1 put 6 0 9 1.b.>INSERTED 2.; Q1 reserve-job 2.>RESERVED 2 1.b.; "
	lastBreaks(t, scene+"Q2 reserve.>RESERVED 2 1.x.", "Body 2, Hold 2, Tube 2, Order 2")
	lastBreaks(t, scene+"Q2 reserve.>RESERVED 2 1.x.RESERVED 1 1.a.OK 0..HELLO", "Form, Answer, Body 2, Hold 2, Tube 2, Order 2")
	lastBreaks(t, scene+"Q2 reserve.>RESERVED 9 1.x.RESERVED 8 1.x.", "Answer, Gone 9")
	lastBreaks(t, scene+"Q2 "+put+">INSERTED 2.INSERTED 1.X", "Form, Answer, Again 2")
	lastBreaks(t, scene+"Q2 peek-buried.>FOUND 2 1.x.", "Body 2, Tube 2")
	lastBreaks(t, scene+"Q2 delete 1.>NOT_FOUND.NOT_FOUND.", "Answer, Lost 1")
	lastBreaks(t, scene+"Q2 delete 1.>DELETED.DELETED.DELETED.", "Answer")
	lastBreaks(t, scene+"H2 stats.; D2; D2", "Answer, Time")
}

// P21.7: First is the first one, also where an event breaks several rules, or errors come later.
func TestFirst(t *testing.T) {
	l := history("O1; T1; Q1 stats.>PAUSED.X; D1; S1 x")
	f, there, err := First(mild, l)
	if f != (api.Fault{At: 4, Rule: api.RuleForm}) || !there || err != api.OK {
		t.Errorf("First = %v, %v, %d", f, there, err)
	}
	f, there, err = First(mild, l[:4])
	if f != (api.Fault{}) || there || err != api.OK {
		t.Errorf("First = %v, %v, %d", f, there, err)
	}
	refused(t, "an event behind a fault", mild, append(l, api.Event{Kind: 11}), api.ErrJudgeEvent)
}

// What a body may have is the config's.
func TestJobMax(t *testing.T) {
	for _, most := range []int{1, 5, 65535} {
		c := api.Config{JobMax: most, Segment: 256, Quota: 4096}
		for _, size := range []int{0, 1, 5, 6, 65535, 65536} {
			s := fmt.Sprint("O1; Q1 put 0 0 1 ", size, ".", strings.Repeat("x", size), ".>")
			right, wrong := "INSERTED 1.", "JOB_TOO_BIG."
			if size > most {
				right, wrong = wrong, right
			}
			if faults, err := All(c, history(s+right)); len(faults) != 0 || err != api.OK {
				t.Errorf("%d of %d bytes: %s, %d", size, most, words(faults), err)
			}
			if faults, err := All(c, history(s+wrong)); words(faults) != "3 Answer" || err != api.OK {
				t.Errorf("%d of %d bytes: %s, %d", size, most, words(faults), err)
			}
		}
	}
}
