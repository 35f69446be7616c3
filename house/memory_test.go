package house

import (
	"bytes"
	"fmt"
	"math/rand"
	"reflect"
	"runtime"
	"strings"
	"sync"
	"testing"
	"time"

	"stint/api"
)

// scribble writes over a list and its spare room.
func scribble[T any](list []T, x T) {
	list = list[:cap(list)]
	for i := range list {
		list[i] = x
	}
}

// scribbleOuts writes over all lists of some outs, and over these.
func scribbleOuts(outs []api.Out) {
	for _, x := range outs {
		scribble(x.Act.Data, '#')
		scribble(x.Reply.Body, '#')
		scribble(x.Data, '#')
	}
	scribble(outs, api.Out{Kind: 99, Conn: 99, Data: []byte("#")})
}

// scribbleTells writes over all that a house tells.
func scribbleTells(h *House) {
	for _, j := range h.Jobs() {
		scribble(j.Body, '#')
	}
	scribble(h.Jobs(), api.Job{})
	scribble(h.Tubes(), api.Tube{})
	scribble(h.Conns(), 99)
}

// R4: whatever a caller writes into answers, no other answer shows it; also not those of a clone.
func TestAnswers(t *testing.T) {
	for seed := range 40 {
		x := newPlay(t, seed)
		for i := range 250 {
			clone := x.h.Clone()
			scribbleOuts(x.step())
			scribbleTells(x.h)
			if i%5 == 0 {
				scribbleOuts(clone.Tick())
				outs, _ := clone.Feed(0, text("..use z.kick 9.peek 1."))
				scribbleOuts(outs)
				scribbleTells(clone)
			}
		}
		if got, want := tellsOf(x.h), x.p.tells(); !reflect.DeepEqual(got, want) {
			t.Fatalf("seed %d: it tells %s", seed, differ(got, want))
		}
	}
}

// R4: the acts of a New, and of an Open, are the caller's, and the files that are handed in are not kept.
func TestBeginMemory(t *testing.T) {
	files := filesOf(t, five, api.Stored{Pri: 1, TTR: 9, State: api.Ready, Tube: "default", Body: []byte("body")})
	before := bytes.Clone(files[0].Data)
	h, acts, err := Open(five, 5, files)
	if err != api.OK || len(acts) != 0 || !bytes.Equal(files[0].Data, before) {
		t.Fatalf("Open: %d, %s", err, show(acts))
	}
	scribble(files[0].Data, '#')
	scribble(files, api.File{})
	h.Join(1)
	outs, _ := h.Feed(1, text("peek 1."))
	if got, _ := spoken(t, outs); got != "D1 S1 FOUND 1 4.body." {
		t.Errorf("the job is %s", got)
	}
	_, acts, _ = New(five, 5)
	_, want, _ := New(five, 5)
	for _, a := range acts {
		scribble(a.Data, '#')
	}
	_, again, _ := New(five, 5)
	if !reflect.DeepEqual(again, want) {
		t.Errorf("the acts became %s", show(again))
	}
}

// R4: bytes that are handed in are neither changed nor kept, nor the spare room behind them, wherever they are cut.
func TestArguments(t *testing.T) {
	all := text("reserve-with-timeout 1.put 0 0 9 4.body.use mail.reserve-with-timeout 1.watch mail." + strings.Repeat("l", 300) + ".put 0 0 9 9.123456789.quit.")
	for cut := 1; cut < 40; cut++ {
		h, _, _ := New(five, 0)
		p := plainNew(five, 0)
		h.Join(3)
		p.join(3)
		for b := all; len(b) > 0; b = b[min(cut, len(b)):] {
			n := min(cut, len(b))
			room := append(bytes.Clone(b[:n]), "\r\nquit\r\nspare"...)
			whole := bytes.Clone(room)
			outs, err := h.Feed(3, room[:n])
			want, _ := p.feed(3, b[:n])
			if err != api.OK || !sameOuts(outs, want) {
				t.Fatalf("cut by %d: %d, %s; want %s", cut, err, show(words(t, outs)), show(words(t, want)))
			}
			if !bytes.Equal(room, whole) {
				t.Fatalf("cut by %d: what was handed in became %q", cut, room)
			}
			scribble(room, '#')
		}
		for range 3 {
			if outs, want := h.Tick(), p.tick(); !sameOuts(outs, want) {
				t.Fatalf("cut by %d: the tick: %s; want %s", cut, show(words(t, outs)), show(words(t, want)))
			}
		}
		if len(h.Conns()) != 0 {
			t.Errorf("cut by %d: the quit was not done", cut)
		}
	}
}

// R4: an answer stays as it was told, whatever is done later.
func TestAnswersStay(t *testing.T) {
	b := newBench(t, five, 0, 1, 2)
	outs, _ := b.h.Feed(1, text("put 0 0 9 2.ab.put 0 0 9 2.cd.reserve.stats-tube default."))
	told, jobs, tubes, conns := ownOuts(outs), b.h.Jobs(), b.h.Tubes(), b.h.Conns()
	before := tellsOf(b.h)
	b.h.Feed(1, text("delete 1.use x.put 0 0 9 2.zz.reserve.bury 2 9.kick 9.pause-tube x 9."))
	b.h.Feed(2, text("reserve.peek-ready.quit."))
	b.h.Tick()
	if !reflect.DeepEqual(ownOuts(outs), told) || !reflect.DeepEqual(ownJobs(jobs), before.jobs) || !reflect.DeepEqual(tubes, before.tubes) || !reflect.DeepEqual(conns, before.conns) {
		t.Errorf("an earlier answer has changed")
	}
}

func heapInUse() int {
	runtime.GC()
	var m runtime.MemStats
	runtime.ReadMemStats(&m)
	return int(m.HeapAlloc)
}

// What is too long, or too big, is not kept, whether the connection waits or not, and whatever stands ahead of it.
func TestLossesAreNotKept(t *testing.T) {
	junk := bytes.Repeat([]byte("x"), 1<<20)
	for _, ahead := range []string{"", "reserve.", "reserve.stats.", "reserve.put 0 0 9 1.x.stats."} {
		for _, begin := range []string{"put 0 0 9 4294967295.", "x"} {
			h, _, _ := New(five, 0)
			h.Join(1)
			before := heapInUse()
			h.Feed(1, text(ahead+begin))
			held := h.Held(1)
			for range 50 {
				h.Feed(1, junk)
			}
			if grown := heapInUse() - before; grown > 4<<20 {
				t.Errorf("behind %q, %q: %d bytes are kept", ahead, begin, grown)
			}
			wantInt(t, h.Held(1), held+50<<20)
			runtime.KeepAlive(h)
		}
	}
}

// What is done is not kept, nor what came from a connection that is gone.
func TestLongLife(t *testing.T) {
	h, _, _ := New(wide, 0)
	h.Join(1)
	h.Join(2)
	body := strings.Repeat("b", 2000)
	round := func(i int) {
		h.Feed(2, text("reserve.put 0 0 9 2000."+body+".put 0 0 9 2000."))
		h.Feed(1, text("put 0 0 9 2000."+body+".reserve-with-timeout 1.put 0 0 9 2000."+body+"."))
		h.Feed(2, text(body+".reserve.put 0 0 9 2000."+body+"."))
		for _, conn := range []int{1, 2} {
			if i%2 == 0 {
				h.Hang(conn)
			} else {
				h.Feed(conn, text("quit."))
				h.Tick()
				h.Hang(conn) // where it waits still
			}
			h.Join(conn)
		}
		for _, j := range h.Jobs() {
			h.Feed(1, text(fmt.Sprint("delete ", j.Id, ".")))
		}
		h.Tick()
	}
	for i := range 200 {
		round(i)
	}
	before := heapInUse()
	for i := range 3000 {
		round(i)
	}
	if grown := heapInUse() - before; grown > 2<<20 {
		t.Errorf("%d bytes are kept", grown)
	}
	wantInt(t, len(h.Jobs()), 0)
	runtime.KeepAlive(h)
}

// The bodies of puts that were done are not kept while commands behind them wait.
func TestDoneBodiesAreNotKept(t *testing.T) {
	h, _, _ := New(api.Config{JobMax: 65535, Segment: 1 << 18, Quota: 1 << 20}, 0)
	h.Join(1)
	before := heapInUse()
	h.Feed(1, text("reserve-with-timeout 1."))
	h.Drain()
	for range 500 {
		h.Feed(1, text("put 0 0 9 60000."+strings.Repeat("b", 60000)+"."))
	}
	h.Feed(1, text("reserve.stats."))
	if grown := heapInUse() - before; grown < 25<<20 {
		t.Errorf("%d bytes are kept of what is not done", grown)
	}
	h.Tick()
	wantInt(t, h.Held(1), 7)
	if grown := heapInUse() - before; grown > 2<<20 {
		t.Errorf("%d bytes are kept", grown)
	}
	runtime.KeepAlive(h)
}

// Of many commands that had to wait nothing is kept when all are done.
func TestDoneCommandsAreNotKept(t *testing.T) {
	h, _, _ := New(five, 0)
	h.Join(1)
	before := heapInUse()
	h.Feed(1, text("reserve-with-timeout 1."))
	h.Feed(1, text(strings.Repeat(".", 100000)))
	wantInt(t, len(h.Tick()), 200001)
	if grown := heapInUse() - before; grown > 2<<20 {
		t.Errorf("%d bytes are kept", grown)
	}
	runtime.KeepAlive(h)
}

// wantSoon tells whether what began at a time took too long.
func wantSoon(t *testing.T, start time.Time) {
	t.Helper()
	if took := time.Since(start); took > 60*time.Second {
		t.Errorf("it took %v", took)
	}
}

// R1: many commands in one Feed, and many Feeds of one byte.
func TestManyCommands(t *testing.T) {
	start := time.Now()
	b := newBench(t, five, 0, 1, 2)
	outs, err := b.h.Feed(1, text(strings.Repeat("use a.", 100000)))
	if err != api.OK || len(outs) != 200000 {
		t.Errorf("Feed: %d outs, %d", len(outs), err)
	}
	b.h.Drain()
	count := 0
	for _, x := range text(strings.Repeat("kick 1.put 0 0 9 3.abc.", 20000)) {
		outs, _ := b.h.Feed(2, []byte{x})
		count += len(outs)
	}
	wantInt(t, count, 80000)
	wantSoon(t, start)
}

// R1: all other connections wait, each with commands that are whole, while one does many, and then all go on.
func TestManyWaiting(t *testing.T) {
	start := time.Now()
	b := newBench(t, five, 0, 0)
	for conn := 1; conn < 64; conn++ {
		b.join(conn)
		b.feed(conn, "reserve-with-timeout 1.", fmt.Sprint("D", conn))
		for i := range 300 {
			b.feed(conn, fmt.Sprint("use t", i, "."), "")
		}
	}
	outs, err := b.h.Feed(0, text(strings.Repeat("use a.", 30000)))
	if err != api.OK || len(outs) != 60000 {
		t.Errorf("Feed: %d outs, %d", len(outs), err)
	}
	outs = b.h.Tick()
	wantInt(t, len(outs), 63+63*300*2)
	for i := range 63 {
		if outs[i].Kind != api.OutSay || outs[i].Conn != i+1 || outs[63+600*i].Conn != i+1 || outs[63+600*i+599].Conn != i+1 {
			t.Fatalf("the outs of %d are not where they should be", i+1)
		}
	}
	wantSoon(t, start)
}

// R1: one that waits is fed a great deal, piece by piece, and does it all when it is told.
func TestManyHeld(t *testing.T) {
	start := time.Now()
	b := newBench(t, five, 0, 1, 2)
	b.feed(1, "reserve.", "D1")
	for range 100000 {
		b.h.Feed(1, text("use b."))
	}
	wantInt(t, b.h.Held(1), 700000)
	c := b.h.Clone()
	outs, _ := b.h.Feed(2, text("put 0 0 9 1.x.use a."))
	wantInt(t, b.h.Held(1), 0)
	if n := len(outs); n < 200000 || outs[n-1].Conn != 2 || outs[n-3].Conn != 1 {
		t.Errorf("%d outs", n)
	}
	wantInt(t, c.Held(1), 700000)
	c.Hang(1)
	wantInt(t, c.Held(1), 0)
	wantSoon(t, start)
}

// R1: any calls, with any numbers and any bytes.
func TestAnything(t *testing.T) {
	for seed := range 30 {
		dice := rand.New(rand.NewSource(int64(seed)))
		h, _, _ := New(small, []int{0, 1<<40 - 5}[seed%2])
		p := plainNew(small, h.Now())
		for range 3000 {
			conn := dice.Intn(4)
			if dice.Intn(20) == 0 {
				conn = wrongConns[dice.Intn(len(wrongConns))]
			}
			b := make([]byte, dice.Intn(30))
			dice.Read(b)
			if dice.Intn(2) == 0 {
				b = []byte(randomBytes(dice, dice.Intn(30)))
			}
			var outs, want []api.Out
			var err, wantErr api.Errno
			switch dice.Intn(8) {
			case 0:
				err, wantErr = h.Join(conn), p.join(conn)
			case 1:
				outs, want = h.Tick(), p.tick()
			case 2:
				if dice.Intn(8) == 0 {
					outs, err = h.Hang(conn)
					want, wantErr = p.hang(conn)
				}
			default:
				outs, err = h.Feed(conn, b)
				want, wantErr = p.feed(conn, b)
			}
			if err != wantErr || !sameOuts(outs, want) {
				t.Fatalf("seed %d, %d, %q: %d, %s; want %d, %s", seed, conn, b, err, show(words(t, outs)), wantErr, show(words(t, want)))
			}
		}
		wantTells(t, h, p.tells())
	}
}

// R2, R3: a nil list of bytes and an empty one are the same.
func TestNoBytes(t *testing.T) {
	for _, b := range [][]byte{nil, {}, make([]byte, 0, 9)} {
		h, _, _ := New(five, 0)
		h.Join(1)
		h.Feed(1, []byte("us"))
		before := tellsOf(h)
		if outs, err := h.Feed(1, b); err != api.OK || len(outs) != 0 {
			t.Errorf("Feed: %s, %d", show(outs), err)
		}
		wantTells(t, h, before)
	}
}

// R5: houses side by side tell the same of the same calls.
func TestSideBySide(t *testing.T) {
	said := make([][]api.Out, 8)
	last := make([]tells, 8)
	var group sync.WaitGroup
	for i := range said {
		group.Go(func() {
			h, _, _ := New(wide, 0)
			for conn := range 20 {
				h.Join(conn)
			}
			hear := func(outs []api.Out, _ api.Errno) { said[i] = append(said[i], outs...) }
			for n := range 200 {
				hear(h.Feed(0, text(fmt.Sprint("use t", n%9, ".put ", n%3, " ", n%4, " ", 1+n%5, " 1.x."))))
				hear(h.Feed(1+n%19, text(fmt.Sprint("watch t", n*5%9, ".reserve-with-timeout 3.list-tubes.stats.pause-tube t", n*2%9, " ", n%3, ".reser"))))
				hear(h.Feed(1+n%19, text("ve-with-timeout 2.")))
				if n%3 == 0 {
					hear(h.Tick(), api.OK)
				}
				if n%10 == 9 {
					hear(h.Hang(1 + n%19))
					h.Join(1 + n%19)
				}
			}
			last[i] = tellsOf(h.Clone())
		})
	}
	group.Wait()
	for i := range said {
		if !sameOuts(said[i], said[0]) || !reflect.DeepEqual(last[i], last[0]) {
			t.Errorf("the house %d tells other things than the first one", i)
		}
	}
	if len(said[0]) < 1000 {
		t.Errorf("the play is too tame: %d outs", len(said[0]))
	}
}
