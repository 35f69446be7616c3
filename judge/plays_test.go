package judge

import (
	"fmt"
	"math/rand"
	"slices"
	"strings"
	"testing"

	"stint/answers"
	"stint/api"
	"stint/world"
)

func pick[T any](dice *rand.Rand, list ...T) T { return list[dice.Intn(len(list))] }

// configs are those of the random plays: with much room and with little.
var configs = []api.Config{
	mild, {JobMax: 100, Segment: 256, Quota: 1024}, {JobMax: 1, Segment: 128, Quota: 1024}, {JobMax: 300, Segment: 400, Quota: 1600}, {JobMax: 65535, Segment: 4096, Quota: 65536},
}

// play is a world with what its connections will say.
type play struct {
	dice   *rand.Rand
	c      api.Config
	w      *world.World
	conns  int
	danger int // how many of a thousand steps have breaks
	said   map[int]string
}

func newPlay(t *testing.T, seed int) *play {
	t.Helper()
	dice := rand.New(rand.NewSource(int64(seed)))
	c := pick(dice, configs...)
	w, err := world.New(c)
	if err != api.OK {
		t.Fatalf("world.New = %d", err)
	}
	return &play{dice, c, w, 1 + dice.Intn(5), pick(dice, 0, 20, 60, 150), map[int]string{}}
}

// command is one command as bytes, which fits what there is, mostly.
func (p *play) command() string {
	id := p.dice.Intn(5)
	if jobs := p.w.Jobs(); len(jobs) > 0 && p.dice.Intn(8) > 0 {
		id = pick(p.dice, jobs...).Id
	}
	if p.dice.Intn(4) == 0 {
		size := min(p.dice.Intn(4), p.c.JobMax)
		end := "\r\n"
		switch p.dice.Intn(25) {
		case 0:
			size = min(p.c.JobMax+1, 700)
		case 1:
			end = "ab"
		}
		return fmt.Sprint("put ", p.dice.Intn(4), " ", max(0, p.dice.Intn(7)-4), " ", p.dice.Intn(6), " ", size, "\r\n", strings.Repeat(pick(p.dice, "a", "b", "\n"), size), end)
	}
	verb := pick(p.dice, "reserve", "reserve", "reserve", "reserve-with-timeout %", "reserve-with-timeout %", "reserve-with-timeout %", "delete #", "delete #", "delete #", "delete #", "delete #", "delete #",
		"release # % 0", "release # % 0", "release # % %", "bury # %", "bury # %", "touch #", "touch #", "peek #", "kick-job #", "kick-job #", "stats-job #", "reserve-job #", "reserve-job #",
		"use @", "watch @", "ignore @", "stats-tube @", "pause-tube @ %", "kick %", "kick %", "peek-ready", "peek-ready", "peek-delayed", "peek-buried", "stats", "list-tubes", "list-tube-used", "list-tubes-watched",
		"quit", "Stats", "put 0 0 1 x", "", strings.Repeat("long", 70))
	return strings.NewReplacer("#", fmt.Sprint(id), "@", pick(p.dice, "a", "b", "default"), "%", fmt.Sprint(p.dice.Intn(4))).Replace(verb) + "\r\n"
}

// piece is what a connection says next, cut by chance.
func (p *play) piece(conn int) []byte {
	s := p.said[conn]
	for s == "" || p.dice.Intn(3) == 0 {
		s += p.command()
	}
	n := pick(p.dice, len(s), len(s), len(s), p.dice.Intn(len(s)+1))
	p.said[conn] = s[n:]
	return []byte(s[:n])
}

// step is a step by chance.
func (p *play) step() api.Step {
	conn := p.dice.Intn(p.conns)
	s := api.Step{Kind: api.StFeed, Conn: conn}
	switch n := p.dice.Intn(100); {
	case !p.w.Up() && n < 60:
		s.Kind = api.StStart
	case p.w.Up() && !slices.Contains(p.w.Conns(), conn):
		s.Kind = api.StOpen
		p.said[conn] = ""
	case n < 15:
		s.Kind = api.StTick
	case n < 17:
		s.Kind = api.StHang
	case n < 18:
		s.Kind = pick(p.dice, api.StOpen, api.StStart, 9)
	case n < 19 && p.dice.Intn(12) == 0:
		s.Kind = api.StDrain
	case n < 20 && p.danger > 0:
		s.Kind = api.StCrash
	default:
		s.Data = p.piece(conn)
	}
	if p.dice.Intn(1000) < p.danger {
		s.Break = 1 + p.dice.Intn(6)
	}
	for range p.dice.Intn(4) {
		s.Keep = append(s.Keep, pick(p.dice, 0, p.dice.Intn(300), 1000000))
	}
	return s
}

// events are those of so many steps.
func (p *play) events(steps int) []api.Event {
	var list []api.Event
	for range steps {
		list = append(list, p.w.Step(p.step())...)
	}
	return list
}

// P21.10: no fault is found in the events of random plays, with crashes and little room.
func TestPlays(t *testing.T) {
	kinds, replies, strange := map[int]int{}, map[string]int{}, 0
	for seed := range 1200 {
		p := newPlay(t, seed)
		l := p.events(250)
		if f, there, err := First(p.c, l); there || err != api.OK {
			t.Fatalf("seed %d: %s%s, %d", seed, showAll(l, f.At), words([]api.Fault{f}), err)
		}
		if faults, err := All(p.c, l); len(faults) > 0 || err != api.OK {
			t.Fatalf("seed %d: %s, %d", seed, words(faults), err)
		}
		strange += strangers(p.c, l)
		for _, e := range l {
			kinds[e.Kind]++
			if e.Kind == api.EvSaid {
				word, _, _ := strings.Cut(string(e.Data), " ")
				replies[strings.TrimSpace(word)]++
			}
		}
	}
	if len(kinds) != 10 || len(replies) != 22 || replies["OUT_OF_MEMORY"] < 100 || replies["DEADLINE_SOON"] < 100 || kinds[api.EvDown] < 1000 || strange < 50 {
		t.Errorf("the plays are too tame: %v, %v, %d", kinds, replies, strange)
	}
}

// P21.10: plays as long as they may be.
func TestLongPlay(t *testing.T) {
	for seed := range 4 {
		p := newPlay(t, seed)
		l := p.events(api.MaxSteps)
		if faults, err := All(p.c, l); len(faults) > 0 || err != api.OK {
			t.Fatalf("seed %d, %d events: %s, %d", seed, len(l), words(faults), err)
		}
	}
}

// fixed is what the connections 1 and 2 say in turn in a play in which jobs come, change and go; a t is a tick, an x that 2 goes and comes again.
var fixed = []string{
	"1 put 5 0 9 3.abc.put 6 0 9 1.b.", "2 reserve.reserve.bury 1 7.", "1 put 1 2 9 0..", "2 release 2 8 1.delete 1.reserve-job 3.", "2 reserve-with-timeout 1.delete 3.put 0 0 9 1.z.", "t", "t",
	"1 kick 2.put 0 0 9 20.01234567890123456789.put 0 0 9 1.c.put 0 0 9 1.d.", "2 reserve.reserve.reserve.bury 2 1.", "1 kick-job 2.touch 1.peek 5.stats-job 6.pause-tube default 1.", "2 release 4 0 0.reserve.", "t", "t", "x",
	"2 delete 4.delete 5.delete 6.delete 7.delete 8.peek-ready.", "1 put 0 0 9 1.e.reserve.release 8 0 0.", "2 reserve.",
}

// stepsOf are the steps of one of them.
func stepsOf(s string) []api.Step {
	switch s {
	case "t":
		return []api.Step{{Kind: api.StTick}}
	case "x":
		return []api.Step{{Kind: api.StHang, Conn: 2}, {Kind: api.StOpen, Conn: 2}}
	}
	return []api.Step{{Kind: api.StFeed, Conn: int(s[0] - '0'), Data: text(s[2:])}}
}

// strangers tells how many jobs of a history are strange.
func strangers(c api.Config, l []api.Event) int {
	j := newJudge(c)
	for _, e := range l {
		j.see(e)
	}
	return j.strange
}

// P21.10: the fixed play, broken at each of its outs, with several keeps; and what is told of all jobs behind that.
func TestEachBreak(t *testing.T) {
	strange := 0
	for _, c := range []api.Config{mild, {JobMax: 100, Segment: 128, Quota: 1024}} {
		w, _ := world.New(c)
		opens := []api.Step{{Kind: api.StOpen, Conn: 1}, {Kind: api.StOpen, Conn: 2}}
		l := stepped(w, opens)
		for i, s := range fixed {
			first := stepsOf(s)[0]
			whole := len(w.Clone().Step(first))
			for b, told := 1, 0; told <= whole; b++ { // one event more than it has is the power's going behind all outs
				for _, keep := range []int{0, 60, 117} {
					x := w.Clone()
					first.Break, first.Keep = b, slices.Repeat([]int{keep}, 9)
					events := x.Step(first)
					told = len(events)
					all := slices.Concat(l, events, stepped(x, []api.Step{{Kind: api.StStart}}), stepped(x, opens))
					for _, next := range fixed[i:] {
						all = append(all, stepped(x, stepsOf(next))...)
					}
					for id := range 12 {
						all = append(all, stepped(x, stepsOf(fmt.Sprintf("1 peek %d.stats-job %d.", id, id)))...)
					}
					if f, there, err := First(c, all); there || err != api.OK {
						t.Fatalf("broken at %d of %q: %s%s, %d", b, s, showAll(all, f.At), words([]api.Fault{f}), err)
					}
					strange += strangers(c, all)
				}
			}
			l = append(l, stepped(w, stepsOf(s))...)
		}
	}
	if strange < 30 {
		t.Errorf("%d jobs came of puts that were lost", strange)
	}
}

// stepped are the events of steps.
func stepped(w *world.World, steps []api.Step) []api.Event {
	var list []api.Event
	for _, s := range steps {
		list = append(list, w.Step(s)...)
	}
	return list
}

// randomReply is a reply's bytes.
func randomReply(dice *rand.Rand) []byte {
	r := api.Reply{Kind: 1 + dice.Intn(api.Replies)}
	switch r.Kind {
	case api.RepInserted:
		r.Id = 1 + dice.Intn(6)
	case api.RepReserved, api.RepFound:
		r.Id, r.Body = 1+dice.Intn(6), []byte(pick(dice, "a", "b", ""))
	case api.RepUsing:
		r.Tube = pick(dice, "a", "b", "default")
	case api.RepWatching, api.RepKicked:
		r.Number = dice.Intn(4)
	case api.RepData:
		r.Body = []byte("x")
	}
	b, _ := answers.Put(r)
	return b
}

// question is a command and the replies that it may be told, mostly; # is an id of a command, $ of a reply, % a number, @ a tube.
func question(dice *rand.Rand) (string, []string) {
	bodies := []string{"RESERVED $ 1.a.", "RESERVED $ 1.b.", "RESERVED $ 0.."}
	found := []string{"FOUND $ 1.a.", "FOUND $ 1.b.", "FOUND $ 0..", "NOT_FOUND."}
	switch dice.Intn(24) {
	case 0, 1, 2:
		return "put % " + pick(dice, "0", "0", "1") + " % 1." + pick(dice, "a", "b") + ".", []string{"INSERTED $.", "INSERTED $.", "INSERTED $.", "OUT_OF_MEMORY.", "DRAINING."}
	case 3, 4:
		return "reserve.", append(bodies, "DEADLINE_SOON.")
	case 5, 6:
		return "reserve-with-timeout %.", append(bodies, "DEADLINE_SOON.", "TIMED_OUT.")
	case 7:
		return "reserve-job #.", []string{"RESERVED # 1.a.", "RESERVED # 1.b.", "NOT_FOUND.", "OUT_OF_MEMORY."}
	case 8, 9:
		return "delete #.", []string{"DELETED.", "NOT_FOUND."}
	case 10, 11:
		return "release # % " + pick(dice, "0", "0", "1") + ".", []string{"RELEASED.", "RELEASED.", "BURIED.", "NOT_FOUND."}
	case 12:
		return "bury # %.", []string{"BURIED.", "NOT_FOUND."}
	case 13:
		return "touch #.", []string{"TOUCHED.", "NOT_FOUND."}
	case 14, 15:
		return "kick-job #.", []string{"KICKED.", "NOT_FOUND.", "OUT_OF_MEMORY."}
	case 16:
		return "peek #.", []string{"FOUND # 1.a.", "FOUND # 1.b.", "NOT_FOUND."}
	case 17:
		return pick(dice, "peek-ready.", "peek-delayed.", "peek-buried."), found
	case 18:
		return "use @.", []string{"USING @."}
	case 19:
		return pick(dice, "watch @.", "ignore @."), []string{"WATCHING 1.", "WATCHING 2.", "WATCHING 3.", "NOT_IGNORED."}
	case 20:
		return "stats-job #.", []string{"OK 1.x.", "NOT_FOUND."}
	case 21:
		return "kick %.", []string{"KICKED %."}
	case 22:
		return "pause-tube @ 1.", []string{"PAUSED.", "NOT_FOUND."}
	}
	return pick(dice, "list-tube-used.", "stats.", "quit.", "put.", "nothing.", "put 0 0 1 101."+strings.Repeat("x", 101)+".", "put 0 0 1 1.abc"), []string{"USING default.", "OK 1.x.", "BAD_FORMAT.", "UNKNOWN_COMMAND.", "JOB_TOO_BIG.", "EXPECTED_CRLF."}
}

// maker makes histories that no world would tell, in which much still fits.
type maker struct {
	dice  *rand.Rand
	clock int
	conns int
	list  []api.Event
}

func (m *maker) add(kind, conn int, data []byte) {
	m.list = append(m.list, api.Event{Kind: kind, Conn: conn, Data: data, Now: m.clock})
}

// ask lets a connection say a command; mostly it is done and answered.
func (m *maker) ask() {
	conn := m.dice.Intn(m.conns)
	heard, said := question(m.dice)
	fill := strings.NewReplacer("#", fmt.Sprint(m.dice.Intn(6)), "$", fmt.Sprint(1+m.dice.Intn(6)), "%", fmt.Sprint(m.dice.Intn(4)), "@", pick(m.dice, "a", "default"))
	m.add(api.EvHeard, conn, text(fill.Replace(heard)))
	if m.dice.Intn(40) > 0 {
		m.add(api.EvDone, conn, nil)
	}
	switch n := m.dice.Intn(60); {
	case n < 3:
		m.add(api.EvSaid, conn, randomReply(m.dice))
	case n < 4:
		m.add(api.EvSaid, conn, append(text(fill.Replace(pick(m.dice, said...))), randomReply(m.dice)...))
	case n < 5:
		m.add(api.EvSaid, conn, text(pick(m.dice, "HELLO", "OK", ".", "")))
	case n < 8:
		m.crash() // while it is done
	case n < 12:
		m.odd() // what is done is not answered, or later
	default:
		m.add(api.EvSaid, conn, text(fill.Replace(pick(m.dice, said...))))
	}
}

// odd is an event that is no talk.
func (m *maker) odd() {
	conn := m.dice.Intn(m.conns)
	switch n := m.dice.Intn(40); {
	case n < 18:
		m.clock += m.dice.Intn(3)
		m.add(api.EvTicked, conn, nil)
	case n < 21:
		m.clock = max(0, m.clock-m.dice.Intn(4))
		m.add(pick(m.dice, api.EvTicked, api.EvUp, api.EvDown), conn, nil)
	case n < 24:
		m.add(api.EvOpened, conn, nil)
	case n < 26:
		m.add(api.EvHung, conn, nil)
	case n < 31:
		m.crash()
	case n < 32:
		m.add(api.EvDrains, conn, nil)
	case n < 33:
		m.add(api.EvRefused, 99, nil)
	case n < 37:
		m.add(api.EvDone, conn, nil)
	default:
		m.add(api.EvSaid, conn, randomReply(m.dice))
	}
}

func (m *maker) crash() {
	m.add(api.EvDown, 0, nil)
	m.add(api.EvUp, 0, nil)
	for i := range m.conns {
		m.add(api.EvOpened, i, nil)
	}
}

// made is a history by chance.
func made(seed, rounds int) []api.Event {
	dice := rand.New(rand.NewSource(int64(seed)))
	m := &maker{dice: dice, conns: 1 + dice.Intn(4)}
	for i := range m.conns {
		m.add(api.EvOpened, i, nil)
	}
	for range rounds {
		if dice.Intn(6) == 0 {
			m.odd()
		} else {
			m.ask()
		}
	}
	return m.list
}

// wantPlain holds the faults of a history against those of the plain judge, and counts them by rules.
func wantPlain(t *testing.T, what string, c api.Config, l []api.Event, counts map[int]int) []api.Fault {
	t.Helper()
	got, err := All(c, l)
	want := plainAll(c, l)
	if err != api.OK || !slices.Equal(got, want) {
		at := 0
		for at < len(got) && at < len(want) && got[at] == want[at] {
			at++
		}
		t.Fatalf("%s: %d\n%sgot %s\nwant %s", what, err, showAll(l, max(slices.Concat(got[at:], want[at:])[0].At, 0)), words(got[at:]), words(want[at:]))
	}
	for _, f := range got {
		counts[f.Rule]++
	}
	return got
}

// P21.1 to P21.8: histories by chance, against the plain judge.
func TestAgainstPlain(t *testing.T) {
	counts := map[int]int{}
	for seed := range 1500 {
		l := made(seed, 100)
		faults := wantPlain(t, fmt.Sprint("seed ", seed), mild, l, counts)
		wantFirst(t, mild, l, faults)
		if seed%50 == 0 {
			wantBeginnings(t, mild, l, faults)
		}
	}
	for rule := api.RuleForm; rule <= api.RuleLost; rule++ {
		if counts[rule] < 100 {
			t.Errorf("the rule %s was broken %d times", ruleNames[rule], counts[rule])
		}
	}
}

// spoil changes a history in some places.
func spoil(dice *rand.Rand, l []api.Event) []api.Event {
	l = slices.Clone(l)
	for range 1 + dice.Intn(4) {
		at := dice.Intn(len(l))
		switch dice.Intn(8) {
		case 0:
			l = slices.Delete(l, at, at+1)
		case 1:
			l = slices.Insert(l, at, l[dice.Intn(len(l))])
		case 2:
			to := dice.Intn(len(l))
			l[at], l[to] = l[to], l[at]
		case 3:
			l = slices.Insert(l, at, api.Event{Kind: api.EvTicked, Now: max(0, l[at].Now+dice.Intn(9)-4)})
		default:
			for range 50 { // what is said is told most
				if at = dice.Intn(len(l)); l[at].Kind == api.EvSaid {
					break
				}
			}
			l[at].Data = spoilData(dice, l[at].Data)
		}
		if len(l) == 0 {
			return []api.Event{{Kind: api.EvDrains}}
		}
	}
	return l
}

func spoilData(dice *rand.Rand, data []byte) []byte {
	data = slices.Clone(data)
	switch {
	case len(data) == 0 || dice.Intn(4) == 0:
		return randomReply(dice)
	case dice.Intn(4) == 0:
		return text("NOT_FOUND.")
	}
	for i, b := range data {
		if '0' <= b && b <= '9' {
			data[i] = byte('0' + dice.Intn(10))
			return data
		}
	}
	data[dice.Intn(len(data))]++
	return data
}

// P21.1 to P21.6: histories of worlds, changed in some places, against the plain judge.
func TestSpoiltAgainstPlain(t *testing.T) {
	counts := map[int]int{}
	for seed := range 500 {
		p := newPlay(t, seed)
		whole := p.events(150)
		for i := range 4 {
			wantPlain(t, fmt.Sprint("seed ", seed, ", ", i), p.c, spoil(p.dice, whole), counts)
		}
	}
	for rule := api.RuleForm; rule <= api.RuleLost; rule++ {
		if counts[rule] < 3 {
			t.Errorf("the rule %s was broken %d times", ruleNames[rule], counts[rule])
		}
	}
}
