package world

import (
	"bytes"
	"fmt"
	"math"
	"math/rand"
	"reflect"
	"slices"
	"strings"
	"testing"

	"stint/answers"
	"stint/api"
	"stint/verbs"
)

func randomConfig(dice *rand.Rand) api.Config {
	list := []api.Config{
		mild, small, {JobMax: 1, Segment: 128, Quota: 1024}, {JobMax: 40, Segment: 128, Quota: 2048}, {JobMax: 300, Segment: 400, Quota: 1600},
		{JobMax: 65535, Segment: 1024, Quota: 4096}, {JobMax: 9, Segment: 512, Quota: 8192}, wide,
	}
	return list[dice.Intn(len(list))]
}

// randomBytes are bytes of which many are ends, or halves of them.
func randomBytes(dice *rand.Rand, n int) string {
	b := make([]byte, n)
	for i := range b {
		b[i] = "\r\n\r\n ab0\x00\xff"[dice.Intn(10)]
	}
	return string(b)
}

// randomPut is a put with its body, which may be too big, or without its end.
func randomPut(dice *rand.Rand, jobMax int) string {
	size := dice.Intn(min(jobMax, 30) + 1)
	end := "\r\n"
	switch dice.Intn(15) {
	case 0:
		size = min(jobMax+1, 700)
	case 1:
		end = "ab"
	}
	return fmt.Sprint("put ", 1022+dice.Intn(4), " ", max(0, dice.Intn(6)-3), " ", 1+dice.Intn(5), " ", size, "\r\n", randomBytes(dice, size), end)
}

// randomText is one command as bytes, which fits what there is, mostly.
func randomText(dice *rand.Rand, w *World) string {
	id := dice.Intn(len(w.Jobs()) + 3)
	if jobs := w.Jobs(); len(jobs) > 0 && dice.Intn(6) > 0 {
		id = jobs[dice.Intn(len(jobs))].Id
	}
	tube := []string{"a", "b", "default", "default"}[dice.Intn(4)]
	switch n := dice.Intn(60); {
	case n < 14:
		return randomPut(dice, w.config.JobMax)
	case n < 19:
		return "reserve\r\n"
	case n < 23:
		return fmt.Sprint("reserve-with-timeout ", dice.Intn(4), "\r\n")
	case n < 25:
		return []string{"put 0 0 1 x", "Stats", "", "reserve ", "delete", "use -", "quit now", " ", strings.Repeat("long", 70)}[dice.Intn(9)] + "\r\n"
	case n < 26:
		return "quit\r\n"
	}
	verb := []string{
		"delete #", "delete #", "delete #", "delete #", "delete #", "delete #", "delete #", "delete #", "delete #", "release # 5 0", "release # 5 1", "release # 5 3", "bury # 3", "bury # 3", "touch #", "peek #", "kick-job #", "stats-job #", "reserve-job #", "reserve-job #",
		"use @", "watch @", "ignore @", "stats-tube @", "pause-tube @ %", "kick %", "kick %", "peek-ready", "peek-delayed", "peek-buried", "stats", "list-tubes", "list-tube-used", "list-tubes-watched",
	}[dice.Intn(34)]
	return strings.NewReplacer("#", fmt.Sprint(id), "@", tube, "%", fmt.Sprint(dice.Intn(4))).Replace(verb) + "\r\n"
}

// client is what a connection says and is told.
type client struct {
	next   string   // what it will say
	queue  []string // its commands that were not done
	task   string   // the one that was done last
	reader *answers.Reader
}

// crowd are the clients of a world; it is P20.10: it knows which ids were told, by whatever life of the world.
type crowd struct {
	t        *testing.T
	clients  map[int]*client
	inserted map[int]bool
	deleted  map[int]bool
}

func newCrowd(t *testing.T) *crowd {
	return &crowd{t, map[int]*client{}, map[int]bool{}, map[int]bool{}}
}

// see looks at the events of a step.
func (c *crowd) see(events []api.Event) {
	c.t.Helper()
	for _, e := range events {
		x := c.clients[e.Conn]
		switch e.Kind {
		case api.EvOpened:
			c.clients[e.Conn] = &client{reader: answers.New()}
		case api.EvHung:
			delete(c.clients, e.Conn)
		case api.EvDown:
			clear(c.clients)
		case api.EvDone:
			x.task, x.queue = x.queue[0], x.queue[1:]
		case api.EvSaid:
			x.reader.Feed(e.Data)
			r, there, err := x.reader.Next()
			if !there || err != api.OK || x.reader.Held() != 0 {
				c.t.Fatalf("%q is not one reply", e.Data)
			}
			c.hear(x.task, r)
		}
	}
}

// hear is P20.10 of one reply to one command.
func (c *crowd) hear(task string, r api.Reply) {
	c.t.Helper()
	line, _, _ := strings.Cut(task, "\r\n")
	cmd, _ := verbs.Parse(line)
	switch r.Kind {
	case api.RepInserted:
		if c.inserted[r.Id] {
			c.t.Fatalf("the id %d is told twice", r.Id)
		}
		c.inserted[r.Id] = true
		c.wantNotDeleted(r.Id, task, r)
	case api.RepReserved, api.RepFound:
		c.wantNotDeleted(r.Id, task, r)
	case api.RepDeleted:
		c.wantNotDeleted(cmd.Id, task, r)
		c.deleted[cmd.Id] = true
	case api.RepReleased, api.RepBuried, api.RepTouched, api.RepKickedJob:
		c.wantNotDeleted(cmd.Id, task, r)
	case api.RepData:
		if cmd.Kind == api.CmdStatsJob {
			c.wantNotDeleted(cmd.Id, task, r)
		}
	}
}

func (c *crowd) wantNotDeleted(id int, task string, r api.Reply) {
	c.t.Helper()
	if c.deleted[id] {
		c.t.Fatalf("%q is told %s, and %d was deleted", task, show(r), id)
	}
}

// rest is P20.10 of the jobs that there are.
func (c *crowd) rest(w *World) {
	c.t.Helper()
	for _, j := range w.Jobs() {
		if c.deleted[j.Id] {
			c.t.Fatalf("the job %d is there, and was deleted", j.Id)
		}
	}
}

// play is a world and a plain one, with clients.
type play struct {
	*pair
	dice   *rand.Rand
	crowd  *crowd
	conns  int
	danger int // how many of a hundred steps have breaks; 0: there are no crashes, too
}

func newPlay(t *testing.T, seed int) *play {
	t.Helper()
	dice := rand.New(rand.NewSource(int64(seed)))
	return &play{newPair(t, randomConfig(dice)), dice, newCrowd(t), 1 + dice.Intn(6), dice.Intn(12)}
}

// piece is what a connection says next, cut by chance.
func (x *play) piece(conn int) []byte {
	c := x.crowd.clients[conn]
	if c == nil {
		return []byte(randomText(x.dice, x.w))
	}
	for c.next == "" || x.dice.Intn(2) == 0 {
		s := randomText(x.dice, x.w)
		c.next += s
		c.queue = append(c.queue, s)
	}
	n := []int{0, 1, 1 + x.dice.Intn(4), x.dice.Intn(len(c.next) + 1), len(c.next), len(c.next), len(c.next), len(c.next)}[x.dice.Intn(8)]
	n = min(n, len(c.next))
	s := c.next[:n]
	c.next = c.next[n:]
	return []byte(s)
}

// breaks lays a break on a step, at one of its outs, and a keep, by which nothing, all or some of what is not safe stays.
func (x *play) breaks(s api.Step) api.Step {
	x.t.Helper()
	outs, _, _ := x.p.clone().outs(s)
	b := 1 + x.dice.Intn(len(outs)+2)
	for i, o := range outs {
		if o.Act.Kind == api.ActAppend && x.dice.Intn(2) == 0 {
			b = i + 2 // when a record is laid, and not safe, there is most to lose
		}
	}
	all := x.unsafe(outs[:min(b-1, len(outs))])
	keep := []int{0, all, all, x.dice.Intn(400) - 100, math.MaxInt, math.MinInt}[x.dice.Intn(6)]
	files := []int{100, 100, x.dice.Intn(len(x.w.Files()) + 3)}[x.dice.Intn(3)]
	return broken(s, b, slices.Repeat([]int{keep}, files)...)
}

// random is a step by chance.
func (x *play) random() api.Step {
	x.t.Helper()
	conn := x.dice.Intn(x.conns)
	if x.dice.Intn(40) == 0 {
		conn = x.dice.Intn(x.conns+2) - 1
	}
	s := api.Step{Kind: api.StFeed, Conn: conn}
	switch n := x.dice.Intn(120); {
	case !x.w.Up() && n < 60:
		s.Kind = api.StStart
	case n < 5 || x.w.Up() && !slices.Contains(x.w.Conns(), conn) && n < 100:
		s.Kind = api.StOpen
	case n < 6:
		s.Kind = api.StHang
	case n < 20:
		s.Kind = api.StTick
	case n < 21 && x.dice.Intn(4) == 0:
		s.Kind = api.StDrain
	case n < 22 && x.danger > 0:
		s = crashes(x.dice.Intn(9))
	case n < 23:
		s.Kind = api.StStart
	case n < 24:
		s.Kind = wrongKinds[x.dice.Intn(len(wrongKinds))]
	}
	if s.Kind == api.StFeed {
		s.Data = x.piece(conn)
	} else if x.dice.Intn(20) == 0 {
		s.Data = []byte(randomText(x.dice, x.w))
	}
	switch {
	case x.dice.Intn(100) < x.danger:
		return x.breaks(s)
	case x.dice.Intn(20) == 0:
		s.Break = -x.dice.Intn(3)
	}
	return s
}

// turn does a step by chance.
func (x *play) turn() (api.Step, []api.Event) {
	x.t.Helper()
	s := x.random()
	events := x.step(s)
	x.crowd.see(events)
	x.crowd.rest(x.w)
	return s, events
}

// P20.1 to P20.5, P20.9 to P20.11, W3, W4: random plays against a plain world.
func TestAgainstPlain(t *testing.T) {
	events, replies := map[int]int{}, map[string]int{}
	lost, kept, moves, torn := 0, 0, 0, 0
	for seed := range 300 {
		x := newPlay(t, seed)
		for range 350 {
			_, list := x.turn()
			for _, e := range list {
				events[e.Kind]++
				if e.Kind == api.EvSaid {
					word, _, _ := strings.Cut(string(e.Data), " ")
					replies[strings.Fields(word)[0]]++
				}
			}
		}
		lost, kept, moves, torn = lost+x.p.lost, kept+x.p.kept, moves+x.p.moves, torn+x.p.torn
	}
	for kind := 1; kind <= 10; kind++ {
		if events[kind] < 100 {
			t.Errorf("there were %d events of the kind %d", events[kind], kind)
		}
	}
	if lost < 100 || kept < 50 || moves < 1000 || torn < 100 || len(replies) != 22 {
		t.Errorf("the plays are too tame: %d lost, %d kept, %d moves, %d torn, %v", lost, kept, moves, torn, replies)
	}
}

// P20.7: clones of clones go their own ways, each like a plain one.
func TestClones(t *testing.T) {
	for seed := range 60 {
		first := newPlay(t, seed)
		plays := []*pair{first.pair}
		for range 300 {
			i := first.dice.Intn(len(plays))
			if len(plays) < 6 && first.dice.Intn(20) == 0 {
				plays = append(plays, plays[i].clone())
			}
			first.pair = plays[i]
			first.pair.step(first.random())
		}
		for i, x := range plays {
			wantTells(t, fmt.Sprint("seed ", seed, ", clone ", i), x.w, x.p.tells())
		}
	}
}

// P20.7: a clone of a world that has no power, and of one at each place of what a connection says.
func TestCloneAnywhere(t *testing.T) {
	x := newPair(t, mild)
	all := text("put 0 0 9 2.ab.reserve-with-timeout 1.use a.put 0 0 1 200." + strings.Repeat("b", 200) + ".quit.")
	x.step(opens(1))
	for i, b := range all {
		for _, s := range []api.Step{ticks, hangs(1), crashes(), drains, feeds(1, "."), broken(feeds(1, "\n"), 2, 5)} {
			c := x.clone()
			before := tellsOf(x.w)
			c.step(s)
			c.step(starts)
			c.step(opens(1))
			c.step(feeds(1, "x.put 0 0 9 1.y.delete 1."))
			wantTells(t, fmt.Sprint("behind what was done to a clone at ", i), x.w, before)
		}
		if i%3 == 0 {
			x = x.clone()
		}
		x.step(api.Step{Kind: api.StFeed, Conn: 1, Data: []byte{b}})
	}
	x.step(crashes())
	c := x.clone()
	c.step(starts)
	c.step(opens(1))
	c.step(feeds(1, "delete 1."))
	if x.w.Up() || len(c.w.Jobs()) != 0 {
		t.Error("a clone's start is seen")
	}
	x.step(starts)
	wantInt(t, "jobs", len(x.w.Jobs()), 1)
}

// fixed is a play in which jobs come, change, are moved and go, files are begun and removed, and there is no room now and then.
func fixed() []api.Step {
	list := []api.Step{opens(1), opens(2)}
	say := func(conn int, s string) { list = append(list, feeds(conn, s)) }
	say(1, "put 5 0 9 3.abc.put 6 0 9 1.b.")
	say(2, "reserve.reserve.bury 1 7.")
	say(1, "put 1 2 9 0..")
	say(2, "release 2 8 1.delete 1.reserve-job 3.")
	say(2, "reserve-with-timeout 1.delete 3.put 0 0 9 1.z.")
	list = append(list, ticks, ticks)
	say(1, "kick 2.put 0 0 9 20.01234567890123456789.put 0 0 9 1.c.put 0 0 9 1.d.")
	say(2, "reserve.reserve.reserve.bury 2 1.")
	say(1, "kick-job 2.delete 2.")
	list = append(list, hangs(2), opens(2))
	say(2, "delete 4.delete 5.delete 6.delete 7.delete 8.")
	say(1, "put 0 0 9 1.e.")
	return list
}

// P20.2, P20.9: the fixed play, broken at each of its outs, with each number of bytes that may be kept, and started again with each break of the start; what goes on behind that is right, too.
func TestEachBreak(t *testing.T) {
	for _, c := range []api.Config{small, {JobMax: 100, Segment: 128, Quota: 1024}} {
		x := newPair(t, c)
		var lost, kept, moves, torn int
		for i, s := range fixed() {
			outs, _, _ := x.p.clone().outs(s)
			for b := 1; b <= len(outs)+2 && s.Kind != api.StOpen; b++ {
				most := x.unsafe(outs[:min(b-1, len(outs))])
				for keep := range most + 1 {
					y := x.clone()
					y.step(broken(s, b, slices.Repeat([]int{keep}, 20)...))
					y.startings(keep)
					if keep == 0 || keep == most/2 || keep == most {
						y.goOn(fixed()[i:])
					}
					lost, kept, moves, torn = lost+y.p.lost, kept+y.p.kept, moves+y.p.moves, torn+y.p.torn
				}
			}
			x.step(s)
		}
		if lost < 1000 || kept < 10 || moves < 1000 || torn < 1000 {
			t.Errorf("the play is too tame: %d lost, %d kept, %d moves, %d torn", lost, kept, moves, torn)
		}
	}
}

// unsafe tells how many bytes are not safe behind some outs.
func (x *pair) unsafe(outs []api.Out) int {
	x.t.Helper()
	p, n := x.p.clone(), 0
	for _, o := range outs {
		p.carry(o)
	}
	for _, f := range p.files {
		n += len(f.Data) - f.Safe
	}
	return n
}

// startings starts a world that has no power, at first with each break.
func (x *pair) startings(keep int) {
	x.t.Helper()
	outs, _, _ := x.p.clone().outs(starts)
	for b := 1; b <= len(outs)+2; b++ {
		y := x.clone()
		y.step(broken(starts, b, slices.Repeat([]int{keep}, 20)...))
		y.step(starts)
	}
	x.step(starts)
}

// goOn lets connections come, and plays the rest of a play.
func (x *pair) goOn(steps []api.Step) {
	x.t.Helper()
	x.step(opens(1))
	x.step(opens(2))
	for _, s := range steps {
		x.step(s)
	}
	x.step(crashes())
	x.step(starts)
}

// P20.8, W1: how bytes are cut is not seen, in random plays of several connections, with crashes between.
func TestPieces(t *testing.T) {
	cuts, gone, downs := 0, 0, 0
	for seed := range 200 {
		x := newPlay(t, seed)
		other := x.w.Clone()
		for range 200 {
			s := x.random()
			if s.Kind != api.StFeed || s.Break > 0 {
				if got, want := other.Step(s), x.w.Step(s); !sameEvents(got, want) {
					t.Fatalf("seed %d: %s: %s; want %s", seed, show(s), show(words(t, got)), show(words(t, want)))
				}
				continue
			}
			want := x.w.Step(s)
			got, heard, hung := inPieces(t, x.dice, other, s)
			cuts++
			if want[0].Kind == api.EvHeard {
				want = want[1:]
				if !hung && !bytes.Equal(heard, s.Data) || !bytes.HasPrefix(s.Data, heard) {
					t.Fatalf("seed %d: %q is heard as %q", seed, s.Data, heard)
				}
			}
			if hung {
				gone++
			}
			if !x.w.Up() {
				downs++
			}
			if !sameEvents(got, want) {
				t.Fatalf("seed %d: %s in pieces: %s; want %s", seed, show(s), show(words(t, got)), show(words(t, want)))
			}
			if got, want := tellsOf(other), tellsOf(x.w); !reflect.DeepEqual(got, want) {
				t.Fatalf("seed %d: in pieces it tells %s", seed, differ(got, want))
			}
		}
	}
	if cuts < 10000 || gone < 50 || downs < 500 {
		t.Errorf("the plays are too tame: %d, %d, %d", cuts, gone, downs)
	}
}

// inPieces does a feed cut by chance; some pieces are empty. Once the connection was hung up, what is left is refused. It tells the events but for those of hearing, and what was heard.
func inPieces(t *testing.T, dice *rand.Rand, w *World, s api.Step) (events []api.Event, heard []byte, hung bool) {
	t.Helper()
	for b := s.Data; ; {
		n := dice.Intn(len(b) + 1)
		if dice.Intn(2) == 0 {
			n = min(n, 1+dice.Intn(3))
		}
		list := w.Step(api.Step{Kind: api.StFeed, Conn: s.Conn, Data: b[:n], Break: s.Break, Keep: s.Keep})
		b = b[n:]
		switch {
		case list[0].Kind == api.EvHeard:
			heard = append(heard, list[0].Data...)
			events = append(events, list[1:]...)
			hung = !slices.Contains(w.Conns(), s.Conn)
		case hung:
			if words(t, list) != fmt.Sprint("Refused", s.Conn, " 180") {
				t.Fatalf("a piece behind the hanging up: %s", words(t, list))
			}
		default:
			return list, nil, false
		}
		if len(b) == 0 {
			return events, heard, hung
		}
	}
}

// R5, P20.6: a run of what a play did tells the same.
func TestRunAgain(t *testing.T) {
	for seed := range 60 {
		x := newPlay(t, seed)
		var steps []api.Step
		var want [][]api.Event
		for range 300 {
			s, events := x.turn()
			steps, want = append(steps, s), append(want, events)
		}
		got, err := Run(api.Play{Config: x.w.config, Steps: steps})
		if err != api.OK || !slices.EqualFunc(got, want, sameEvents) {
			t.Fatalf("seed %d: a run tells other things: %d", seed, err)
		}
	}
}
