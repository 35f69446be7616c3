package house

import (
	"fmt"
	"math/rand"
	"reflect"
	"slices"
	"strings"
	"testing"

	"stint/answers"
	"stint/api"
	"stint/disk"
	"stint/engine"
)

func randomConfig(dice *rand.Rand) api.Config {
	list := []api.Config{
		five, small, {JobMax: 1, Segment: 128, Quota: 1024}, {JobMax: 40, Segment: 128, Quota: 2048}, {JobMax: 300, Segment: 400, Quota: 1600},
		{JobMax: 65535, Segment: 1024, Quota: 4096}, {JobMax: 9, Segment: 512, Quota: 8192}, wide,
	}
	return list[dice.Intn(len(list))]
}

// randomBytes are bytes of which many are ends, or halves of them.
func randomBytes(dice *rand.Rand, n int) string {
	b := make([]byte, n)
	for i := range b {
		b[i] = "\r\n\r\n ab0\x00\xff"[dice.Intn(10)]
	}
	return string(b)
}

// randomPut is a put with its body, which may be too big, or without its end.
func randomPut(dice *rand.Rand, jobMax int) string {
	size := dice.Intn(min(jobMax, 30) + 1)
	end := "\r\n"
	switch dice.Intn(12) {
	case 0:
		size = jobMax + 1
	case 1:
		size = jobMax + dice.Intn(300)
	case 2:
		end = randomBytes(dice, 2)
	}
	if size > 1000 {
		size = 1000
	}
	return fmt.Sprint("put ", 1022+dice.Intn(4), " ", max(0, dice.Intn(6)-3), " ", dice.Intn(6), " ", size, "\r\n", randomBytes(dice, size), end)
}

// randomJunk is what is no right command, mostly.
func randomJunk(dice *rand.Rand) string {
	switch dice.Intn(6) {
	case 0:
		return strings.Repeat("x", 215+dice.Intn(15)) + "\r\n"
	case 1:
		return "use " + strings.Repeat("n", 190+dice.Intn(15)) + "\r\n"
	case 2:
		return randomBytes(dice, dice.Intn(600))
	case 3:
		return []string{"put 0 0 1 x", "Stats", "", "reserve ", "delete", "use -", "quit now", " ", "put 1 1 1 4294967296"}[dice.Intn(9)] + "\r\n"
	case 4:
		return randomBytes(dice, dice.Intn(4))
	}
	return strings.Repeat("long\n", 40+dice.Intn(60)) + "\r\n"
}

// randomText is a command as bytes, which fits what there is, mostly.
func randomText(dice *rand.Rand, p *plain) string {
	id := dice.Intn(len(p.e.Jobs()) + 3)
	if jobs := p.e.Jobs(); len(jobs) > 0 && dice.Intn(6) > 0 {
		id = jobs[dice.Intn(len(jobs))].Id
	}
	tube := []string{"a", "b", "default", "default"}[dice.Intn(4)]
	number := dice.Intn(4)
	switch n := dice.Intn(60); {
	case n < 14:
		return randomPut(dice, p.c.JobMax)
	case n < 24:
		return "reserve\r\n"
	case n < 30:
		return fmt.Sprint("reserve-with-timeout ", number, "\r\n")
	case n < 34:
		return randomJunk(dice)
	case n < 35 && dice.Intn(3) == 0:
		return "quit\r\n"
	}
	verb := []string{
		"delete #", "delete #", "delete #", "release # 5 0", "release # 5 1", "bury # 3", "touch #", "peek #", "kick-job #", "stats-job #", "reserve-job #",
		"use @", "watch @", "ignore @", "stats-tube @", "pause-tube @ %", "kick %", "kick %", "peek-ready", "peek-delayed", "peek-buried", "stats", "list-tubes", "list-tube-used", "list-tubes-watched",
	}[dice.Intn(25)]
	return strings.NewReplacer("#", fmt.Sprint(id), "@", tube, "%", fmt.Sprint(number)).Replace(verb) + "\r\n"
}

// replay is P18.10: an engine that is told what the house did, in its order, and must answer the same. Of stamps it knows nothing.
type replay struct {
	t     *testing.T
	c     api.Config
	e     *engine.Engine
	left  map[int][]byte // of each connection, what came and was not done
	said  map[int]*answers.Reader
	calls int
}

func newReplay(t *testing.T, c api.Config, now int) *replay {
	e, _, _ := engine.New(c, now)
	return &replay{t, c, e, map[int][]byte{}, map[int]*answers.Reader{}, 0}
}

func (r *replay) join(conn int) {
	r.e.Join(conn)
	r.left[conn] = nil
	r.said[conn] = answers.New()
}

// heads takes an engine's outs off a house's.
func (r *replay) heads(outs, want []api.Out) []api.Out {
	r.t.Helper()
	if len(outs) < len(want) {
		r.t.Fatalf("%s; want %s", show(words(r.t, outs)), show(want))
	}
	for i, x := range want {
		if x.Kind == api.OutSay {
			data, _ := answers.Put(x.Reply)
			x = api.Out{Kind: api.OutSay, Conn: x.Conn, Data: data}
			wantReply(r.t, "replay", r.said[x.Conn], outs[i].Data)
		}
		if !sameOuts(outs[i:i+1], []api.Out{x}) {
			r.t.Fatalf("%s; want %s", show(outs[i]), show(x))
		}
	}
	return outs[len(want):]
}

func (r *replay) leave(outs []api.Out, conn int) []api.Out {
	r.t.Helper()
	delete(r.left, conn)
	want, err := r.e.Leave(conn)
	if err != api.OK {
		r.t.Fatalf("Leave(%d) = %d", conn, err)
	}
	return r.heads(outs, want)
}

// goOn holds the outs of going on against the engine; each command but a quit and a reserve that waits is answered by one OutSay ahead of the next (P18.11).
func (r *replay) goOn(outs []api.Out) {
	r.t.Helper()
	for len(outs) > 0 {
		conn := outs[0].Conn
		outs = r.heads(outs, []api.Out{{Kind: api.OutDone, Conn: conn}})
		x, whole := readPlain(r.left[conn], r.c.JobMax)
		if !whole {
			r.t.Fatalf("%d does a command that is not whole: %q", conn, r.left[conn])
		}
		r.left[conn] = r.left[conn][x.size:]
		r.calls++
		switch {
		case x.reply != 0:
			outs = r.heads(outs, []api.Out{{Kind: api.OutSay, Conn: conn, Reply: api.Reply{Kind: x.reply}}})
		case x.c.Kind == api.CmdQuit:
			outs = r.heads(outs, []api.Out{{Kind: api.OutHang, Conn: conn}})
			outs = r.leave(outs, conn)
		default:
			want, err := r.e.Do(conn, x.c)
			if err != api.OK {
				r.t.Fatalf("%d does what it may not: %s, %d", conn, show(x.c), err)
			}
			says := 0
			for _, y := range want {
				if y.Kind == api.OutSay && y.Conn == conn {
					says++
				}
			}
			if (says == 1) == r.e.Waits(conn) {
				r.t.Fatalf("%d is told %d replies on %s", conn, says, show(x.c))
			}
			outs = r.heads(outs, want)
		}
	}
	for conn, b := range r.left {
		if _, whole := readPlain(b, r.c.JobMax); whole && !r.e.Waits(conn) {
			r.t.Fatalf("it rests, and %d could do a command", conn)
		}
	}
}

// play is a house, a plain one and a replay, to which the same comes.
type play struct {
	t     *testing.T
	dice  *rand.Rand
	h     *House
	p     *plain
	r     *replay
	next  map[int]string // of each connection, what it will say
	conns int
}

func newPlay(t *testing.T, seed int) *play {
	t.Helper()
	dice := rand.New(rand.NewSource(int64(seed)))
	c, now := randomConfig(dice), []int{0, 0, 10, 1<<40 - 20, 1 << 40}[dice.Intn(5)]
	h, _, err := New(c, now)
	if err != api.OK {
		t.Fatalf("New = %d", err)
	}
	x := &play{t, dice, h, plainNew(c, now), newReplay(t, c, now), map[int]string{}, 1 + dice.Intn(7)}
	for conn := range x.conns - 1 {
		x.h.Join(conn)
		x.p.join(conn)
		x.r.join(conn)
	}
	return x
}

// piece is what a connection says next, cut by chance.
func (x *play) piece(conn int) []byte {
	for x.next[conn] == "" || x.dice.Intn(2) == 0 {
		x.next[conn] += randomText(x.dice, x.p)
	}
	s := x.next[conn]
	n := []int{0, 1, 1 + x.dice.Intn(4), x.dice.Intn(len(s) + 1), len(s), len(s), len(s), len(s)}[x.dice.Intn(8)]
	n = min(n, len(s))
	x.next[conn] = s[n:]
	return []byte(s[:n])
}

// step lets one thing come to all of them, which must answer alike.
func (x *play) step() []api.Out {
	x.t.Helper()
	conn := x.dice.Intn(x.conns+1) - x.dice.Intn(2)
	var outs, want []api.Out
	var err, wantErr api.Errno
	what := ""
	switch n := x.dice.Intn(60); {
	case n < 4:
		what = fmt.Sprint("Join ", conn)
		err, wantErr = x.h.Join(conn), x.p.join(conn)
		if err == api.OK {
			x.next[conn] = ""
			x.r.join(conn)
		}
	case n < 5:
		what = fmt.Sprint("Hang ", conn)
		outs, err = x.h.Hang(conn)
		want, wantErr = x.p.hang(conn)
		if err == api.OK {
			x.r.goOn(x.r.leave(outs, conn))
		}
	case n < 13:
		what = "Tick"
		outs, want = x.h.Tick(), x.p.tick()
		x.r.goOn(x.r.heads(outs, x.r.e.Tick()))
	case n < 14 && x.dice.Intn(30) == 0:
		what = "Drain"
		x.h.Drain()
		x.p.e.Drain()
		x.r.e.Drain()
	default:
		b := x.piece(conn)
		what = fmt.Sprintf("Feed %d %q", conn, b)
		outs, err = x.h.Feed(conn, b)
		want, wantErr = x.p.feed(conn, b)
		if err == api.OK {
			x.r.left[conn] = append(x.r.left[conn], b...)
			x.r.goOn(outs)
		}
	}
	if err != wantErr || !sameOuts(outs, want) {
		x.t.Fatalf("%s: %d, %s; want %d, %s", what, err, show(words(x.t, outs)), wantErr, show(words(x.t, want)))
	}
	if got, want := tellsOf(x.h), x.p.tells(); !reflect.DeepEqual(got, want) {
		x.t.Fatalf("%s: it tells %s", what, differ(got, want))
	}
	if !x.p.atRest() {
		x.t.Fatalf("%s: it does not rest", what)
	}
	wantInTurn(x.t, what, outs)
	return outs
}

// seen counts what plays have come by.
type seen struct {
	replies map[string]int // by their first word
	hung    int
	late    int // calls in which other connections did commands than the one that fed
}

func (s *seen) count(outs []api.Out) {
	conns := map[int]int{}
	for _, x := range outs {
		switch x.Kind {
		case api.OutSay:
			word, _, _ := strings.Cut(strings.TrimSpace(string(x.Data)), " ")
			word, _, _ = strings.Cut(word, "\r")
			s.replies[word]++
		case api.OutHang:
			s.hung++
		case api.OutDone:
			conns[x.Conn]++
		}
	}
	if len(conns) > 1 {
		s.late++
	}
}

// P18.2 to P18.6, P18.9 to P18.11: random plays against a plain house and an engine, and on a disk.
func TestAgainstPlain(t *testing.T) {
	s := seen{replies: map[string]int{}}
	for seed := range 250 {
		x := newPlay(t, seed)
		_, acts, _ := New(x.p.c, 0)
		d, _ := disk.New(x.p.c.Quota)
		for _, a := range acts {
			d.Do(a)
		}
		for range 400 {
			outs := x.step()
			for _, o := range outs {
				if o.Kind == api.OutAct && d.Do(o.Act) != api.OK {
					t.Fatalf("seed %d: the disk refuses %s", seed, show(o.Act))
				}
			}
			s.count(outs)
		}
		opened, acts, err := Open(x.p.c, x.h.Now(), d.Files())
		if err != api.OK || len(acts) != 0 || len(opened.Jobs()) != len(x.h.Jobs()) {
			t.Fatalf("seed %d: opened: %d, %s", seed, err, show(acts))
		}
	}
	for _, word := range []string{
		"INSERTED", "USING", "RESERVED", "DEADLINE_SOON", "TIMED_OUT", "DELETED", "RELEASED", "BURIED", "TOUCHED", "WATCHING", "NOT_IGNORED", "FOUND", "KICKED", "PAUSED", "OK",
		"NOT_FOUND", "OUT_OF_MEMORY", "BAD_FORMAT", "UNKNOWN_COMMAND", "EXPECTED_CRLF", "JOB_TOO_BIG", "DRAINING",
	} {
		if s.replies[word] < 40 {
			t.Errorf("%s was said %d times", word, s.replies[word])
		}
	}
	if s.hung < 100 || s.late < 500 || len(s.replies) != 22 {
		t.Errorf("the plays are too tame: %d, %d, %v", s.hung, s.late, s.replies)
	}
}

// P18.7: clones of clones go their own ways, each like a plain one.
func TestClones(t *testing.T) {
	for seed := range 60 {
		first := newPlay(t, seed)
		plays := []*play{first}
		for range 500 {
			i := first.dice.Intn(len(plays))
			x := plays[i]
			if len(plays) < 6 && first.dice.Intn(30) == 0 {
				y := *x
				y.h, y.p, y.next = x.h.Clone(), x.p.clone(), map[int]string{}
				y.r = newReplay(t, x.p.c, 0)
				y.r.e = x.r.e.Clone()
				for conn, b := range x.r.left {
					y.r.left[conn], y.r.said[conn] = slices.Clone(b), x.r.said[conn].Clone()
				}
				for conn, s := range x.next {
					y.next[conn] = s
				}
				plays = append(plays, &y)
			}
			x.step()
		}
		for i, x := range plays {
			if got, want := tellsOf(x.h), x.p.tells(); !reflect.DeepEqual(got, want) {
				t.Fatalf("seed %d: the clone %d tells %s", seed, i, differ(got, want))
			}
		}
	}
}

// cutPlay is a play of two houses, to one of which what comes is cut in pieces.
func cutPlay(t *testing.T, seed int) (cuts, gone int) {
	t.Helper()
	x := newPlay(t, seed)
	other := x.h.Clone()
	for range 200 {
		conn := x.dice.Intn(x.conns)
		switch n := x.dice.Intn(20); {
		case n < 2:
			if x.h.Join(conn) != other.Join(conn) {
				t.Fatalf("seed %d: Join", seed)
			}
			if x.p.join(conn) == api.OK {
				x.next[conn] = ""
			}
		case n < 5:
			x.p.tick()
			if !sameOuts(x.h.Tick(), other.Tick()) {
				t.Fatalf("seed %d: Tick", seed)
			}
		default:
			b := x.piece(conn)
			want, wantErr := x.h.Feed(conn, b)
			x.p.feed(conn, b)
			got, err := inPieces(x.dice, other, conn, b)
			if err != wantErr || !sameOuts(got, want) {
				t.Fatalf("seed %d: Feed %q in pieces: %d, %s; want %d, %s", seed, b, err, show(words(t, got)), wantErr, show(words(t, want)))
			}
			cuts++
			if err == api.OK && !slices.Contains(other.Conns(), conn) {
				gone++
			}
		}
		if got, want := tellsOf(other), tellsOf(x.h); !reflect.DeepEqual(got, want) {
			t.Fatalf("seed %d: in pieces it tells %s", seed, differ(got, want))
		}
	}
	return cuts, gone
}

// inPieces feeds bytes cut by chance, till they end, or the connection is gone; some pieces are empty.
func inPieces(dice *rand.Rand, h *House, conn int, b []byte) ([]api.Out, api.Errno) {
	var outs []api.Out
	for {
		n := dice.Intn(len(b) + 1)
		if dice.Intn(2) == 0 {
			n = min(n, 1+dice.Intn(3))
		}
		more, err := h.Feed(conn, b[:n])
		if err != api.OK {
			return outs, err
		}
		outs = append(outs, more...)
		b = b[n:]
		if len(b) == 0 || !slices.Contains(h.Conns(), conn) {
			return outs, api.OK
		}
	}
}

// P18.8, W1: how bytes are cut is not seen, in random plays of several connections.
func TestPieces(t *testing.T) {
	cuts, gone := 0, 0
	for seed := range 250 {
		c, g := cutPlay(t, seed)
		cuts, gone = cuts+c, gone+g
	}
	if cuts < 10000 || gone < 50 {
		t.Errorf("the plays are too tame: %d, %d", cuts, gone)
	}
}

// cutText has each kind of command, and waits in between.
const cutText = "put 0 0 9 2.ab.reserve-with-timeout 1.reserve-with-timeout 1.delete 1.stats-tube none.\r\r.\n.put 0 0 1 9.12345678..list-tube-used.put 0 0 9 1.abc.use -.put 0 3 1 0..reserve.peek 2.stats.quit.use a."

// P18.8: one stream, cut at each place in two, and at each pair of places in three; another connection waits, with commands that it has still to do.
func TestEachCut(t *testing.T) {
	start, _, _ := New(five, 0)
	start.Join(5)
	start.Join(6)
	start.Feed(6, text("watch z.ignore default.reserve.use b.list-tubes."))
	all := text(strings.Replace(cutText, "use -.", strings.Repeat("y", 230)+".", 1))
	run := func(pieces ...[]byte) (list []api.Out, last tells) {
		h := start.Clone()
		for _, b := range pieces {
			outs, err := h.Feed(5, b)
			if err != api.OK {
				t.Fatalf("Feed = %d", err)
			}
			list = append(list, outs...)
		}
		list = append(list, h.Tick()...)
		for i := range 4 {
			outs, _ := h.Feed(6, text(fmt.Sprint("use t", i, ".")))
			list = append(append(list, outs...), h.Tick()...)
		}
		return list, tellsOf(h)
	}
	want, wantLast := run(all)
	said, _ := spoken(t, want)
	for _, w := range []string{"TIMED_OUT", "JOB_TOO_BIG", "EXPECTED_CRLF", "BAD_FORMAT", "UNKNOWN", "DELETED", "RESERVED 2", "H5"} {
		if !strings.Contains(said, w) {
			t.Fatalf("%s is not in the play: %s", w, said)
		}
	}
	for i := range len(all) + 1 {
		got, last := run(all[:i], all[i:])
		if !sameOuts(got, want) || !reflect.DeepEqual(last, wantLast) {
			t.Fatalf("cut at %d: %s", i, show(words(t, got)))
		}
		for k := i; k <= len(all); k += 1 + (i+k)%13 {
			got, last := run(all[:i], all[i:k], all[k:])
			if !sameOuts(got, want) || !reflect.DeepEqual(last, wantLast) {
				t.Fatalf("cut at %d and %d: %s", i, k, show(words(t, got)))
			}
		}
	}
	var single [][]byte
	for i := range all {
		single = append(single, all[i:i+1])
	}
	if got, last := run(single...); !sameOuts(got, want) || !reflect.DeepEqual(last, wantLast) {
		t.Fatalf("byte by byte: %s", show(words(t, got)))
	}
}

// P18.7: a clone of a connection at each place of what it says goes on as it would, and the other one does not see it.
func TestCloneAnywhere(t *testing.T) {
	all := text("reserve-with-timeout 2.use q." + cutText)
	ends := []string{".", "x..", "\n", "use z.", "quit.", "\r\nstats-tube q."}
	h, _, _ := New(five, 0)
	h.Join(1)
	h.Join(2)
	p := plainNew(five, 0)
	p.join(1)
	p.join(2)
	for i, b := range all {
		for _, end := range ends {
			c, q, before := h.Clone(), p.clone(), tellsOf(h)
			for range 2 {
				outs, err := c.Feed(1, text(end))
				want, wantErr := q.feed(1, text(end))
				more, wantMore := c.Tick(), q.tick()
				if err != wantErr || !sameOuts(outs, want) || !sameOuts(more, wantMore) {
					t.Fatalf("a clone at %d, behind %q: %d, %s, %s; want %d, %s, %s", i, end, err, words(t, outs), words(t, more), wantErr, words(t, want), words(t, wantMore))
				}
				wantTells(t, c, q.tells())
			}
			c.Hang(2)
			c.Drain()
			wantTells(t, h, before)
		}
		c := h.Clone()
		outs, err := h.Feed(1, []byte{b})
		want, wantErr := p.feed(1, []byte{b})
		if err != wantErr || !sameOuts(outs, want) {
			t.Fatalf("at %d: %d, %s; want %d, %s", i, err, words(t, outs), wantErr, words(t, want))
		}
		h = []*House{h, c}[i%2] // the clone goes on where the first one was
		if i%2 == 1 {
			h.Feed(1, []byte{b})
		}
		if i%17 == 16 {
			if !sameOuts(h.Tick(), p.tick()) {
				t.Fatalf("at %d: the tick", i)
			}
		}
		wantTells(t, h, p.tells())
	}
}
