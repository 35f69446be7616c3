package house

import (
	"fmt"
	"strings"
	"testing"

	"stint/api"
)

// To go on: those that were woken by one tick go on by their stamps, not by their numbers, nor by who waited first.
func TestStampsBehindTick(t *testing.T) {
	for _, order := range [][]int{{1, 2, 3}, {1, 3, 2}, {2, 1, 3}, {2, 3, 1}, {3, 1, 2}, {3, 2, 1}} {
		for _, wait := range [][]int{{1, 2, 3}, {3, 2, 1}, {2, 3, 1}} {
			b := newBench(t, five, 0, 1, 2, 3)
			said, done := "", ""
			for _, conn := range wait {
				b.feed(conn, "reserve-with-timeout 1.", fmt.Sprint("D", conn))
				said += fmt.Sprintf("S%d TIMED_OUT. ", conn)
			}
			for _, conn := range order {
				b.feed(conn, "use a.use b.", "")
				done += fmt.Sprintf("D%d S%d USING a. D%d S%d USING b. ", conn, conn, conn, conn)
			}
			b.tick(1, strings.TrimSpace(said+done))
		}
	}
}

// To go on: stamps are of each command, so those of several connections go through one another.
func TestStampsInterleave(t *testing.T) {
	b := newBench(t, five, 0, 1, 2, 3)
	for _, conn := range []int{1, 2, 3} {
		b.feed(conn, "reserve-with-timeout 1.", fmt.Sprint("D", conn))
	}
	want := []string{"S1 TIMED_OUT. S2 TIMED_OUT. S3 TIMED_OUT."}
	for i := range 60 {
		conn := 1 + i*i%7%3
		b.feed(conn, fmt.Sprint("use t", i, "."), "")
		want = append(want, fmt.Sprintf("D%d S%d USING t%d.", conn, conn, i))
	}
	b.tick(1, strings.Join(want, " "))
	b.held(0, 0, 0)
}

// A stamp is the number of the Feed in which the last byte came, wherever the others came.
func TestStampIsOfLastByte(t *testing.T) {
	big, long := strings.Repeat("b", 1000), strings.Repeat("l", 1000)
	for _, x := range []struct{ first, last, want string }{
		{"use a", ".", "USING a."},
		{"use a\r", "\n", "USING a."},
		{"u", "se a.", "USING a."},
		{"", "use a.", "USING a."},
		{"put 0 0 9 2.", "ab.", "INSERTED 1."},
		{"put 0 0 9 2.ab\r", "\n", "INSERTED 1."},
		{"put 0 0 9 0.\r", "\n", "INSERTED 1."},
		{"put 0 0 9 2.ab", "xy", "EXPECTED_CRLF."},
		{"put 0 0 9 1000." + big, ".", "JOB_TOO_BIG."},
		{"put 0 0 9 1000." + big + "\r", "x", "JOB_TOO_BIG."},
		{long, ".", "BAD_FORMAT."},
		{long + "\r", "\n", "BAD_FORMAT."},
		{"use -", ".", "BAD_FORMAT."},
		{"us", ".", "UNKNOWN_COMMAND."},
	} {
		for _, behind := range []string{"", "st"} {
			b := newBench(t, five, 0, 1, 2)
			b.feed(1, "reserve-with-timeout 1.", "D1")
			b.feed(2, "reserve-with-timeout 1.", "D2")
			b.feed(1, x.first, "")
			b.feed(2, "use q.", "")
			b.feed(1, x.last+behind, "")
			b.feed(2, "use r.", "")
			b.tick(1, "S1 TIMED_OUT. S2 TIMED_OUT. D2 S2 USING q. D1 S1 "+x.want+" D2 S2 USING r.")
			b.held(len(behind), 0)
		}
	}
}

// To go on: what came earlier and had to wait goes ahead of what comes next of the one that woke it, however long that is, and however deep it goes.
func TestEarlierGoesFirst(t *testing.T) {
	b := newBench(t, five, 0, 1, 2, 3, 4)
	b.feed(4, "watch c.ignore default.reserve.use k.use l.", "D4 S4 WATCHING 2. D4 S4 WATCHING 1. D4")
	b.feed(3, "watch b.ignore default.use c.reserve.put 0 0 9 1.c.use m.", "D3 S3 WATCHING 2. D3 S3 WATCHING 1. D3 S3 USING c. D3")
	b.feed(2, "use b.reserve.put 0 0 9 1.b.reserve.use n.", "D2 S2 USING b. D2")
	// 1 wakes 2, which wakes 3, which wakes 4: each goes on with what came first of all.
	b.feed(1, "put 0 0 9 1.a.use x.put 0 0 9 1.q.use y.quit.",
		"D1 S1 INSERTED 1. S2 RESERVED 1 1.a. D2 S2 INSERTED 2. S3 RESERVED 2 1.b. D3 S3 INSERTED 3. S4 RESERVED 3 1.c. D4 S4 USING k. D4 S4 USING l. D3 S3 USING m. D2 D1 S1 USING x. D1 S1 INSERTED 4. D1 S1 USING y. D1 H1")
	b.held(0, 7, 0, 0)
	b.conns(2, 3, 4)
}

// To go on: one that was woken and waits anew is skipped, and its later commands wait with it.
func TestWokenWaitsAnew(t *testing.T) {
	b := newBench(t, five, 0, 1, 2)
	b.feed(2, "reserve.reserve.reserve.use a.", "D2")
	b.feed(1, "put 0 0 9 1.x.put 0 0 9 1.y.list-tube-used.", "D1 S1 INSERTED 1. S2 RESERVED 1 1.x. D2 D1 S1 INSERTED 2. S2 RESERVED 2 1.y. D2 D1 S1 USING default.")
	b.held(0, 7)
	b.feed(1, "list-tubes.", "D1 S1 OK 14.---\n- default\n.")
	b.hang(1, "")
	b.tick(8, "S2 DEADLINE_SOON. D2 S2 USING a.")
}

// The one that feeds may wait itself: then nothing is done, but what came is kept, with its stamp.
func TestFeedWhileWaiting(t *testing.T) {
	b := newBench(t, five, 0, 1, 2)
	b.feed(1, "reserve-with-timeout 2.", "D1")
	for i := range 20 {
		b.feed(1, "kick 1.", "")
		b.held(8 * (i + 1))
	}
	b.feed(2, "use a.", "D2 S2 USING a.")
	b.tick(2, "S1 TIMED_OUT."+strings.Repeat(" D1 S1 KICKED 0.", 20))
	b.held(0, 0)
}

// A connection that a command of another one lets wait no longer does not go on ahead of what the engine says of that command.
func TestSaidAheadOfGoingOn(t *testing.T) {
	b := newBench(t, five, 0, 1, 2, 3)
	b.feed(2, "reserve.delete 1.", "D2")
	b.feed(3, "reserve.delete 2.", "D3")
	b.feed(1, "use z.put 0 0 9 1.a.put 0 0 9 1.b.", "D1 S1 USING z. D1 S1 INSERTED 1. D1 S1 INSERTED 2.")
	b.feed(1, "pause-tube z 1.watch z.ignore default.reserve-job 1.reserve-job 2.release 1 0 1.release 2 0 1.",
		"D1 S1 PAUSED. D1 S1 WATCHING 2. D1 S1 WATCHING 1. D1 S1 RESERVED 1 1.a. D1 S1 RESERVED 2 1.b. D1 S1 RELEASED. D1 S1 RELEASED.")
	b.feed(1, "use default.put 0 1 9 1.c.put 0 1 9 1.d.", "D1 S1 USING default. D1 S1 INSERTED 3. D1 S1 INSERTED 4.")
	b.tick(1, "S2 RESERVED 3 1.c. S3 RESERVED 4 1.d. D2 S2 DELETED. D3 S3 DELETED.")
}

// P18.9: each command is done in the call in which its last byte comes, or in which its connection waits no longer.
func TestAtRest(t *testing.T) {
	b := newBench(t, five, 0, 1, 2)
	s := "use a.watch b.put 0 0 9 1.x.stats-tube q.reserve-with-timeout 0."
	outs := 0
	for i, x := range text(s) {
		l, err := b.h.Feed(1, []byte{x})
		ends := x == '\n' && !strings.HasSuffix(string(text(s)[:i+1]), " 1\r\n")
		if err != api.OK || (len(l) > 0) != ends {
			t.Errorf("behind the byte %d: %s", i, show(words(t, l)))
		}
		outs += len(l)
	}
	wantInt(t, outs, 12)
	b.feed(1, "reserve.use c.", "D1")
	for range 5 {
		b.feed(2, "kick 1.", "D2 S2 KICKED 0.")
		b.tick(1, "")
	}
	b.feed(2, "use b.put 0 0 9 1.y.", "D2 S2 USING b. D2 S2 INSERTED 2. S1 RESERVED 2 1.y. D1 S1 USING c.")
}
