package client

import (
	"errors"
	"fmt"
	"math/rand"
	"reflect"
	"strings"
	"testing"

	"stint/api"
	"stint/engine"
	"stint/house"
)

// player plays by dice on a teller, and writes down all that it is told. What it does hangs on the dice and on what it was told alone.
type player struct {
	dice  *rand.Rand
	d     teller
	conns int // how many were dialled
	depth int // works that run
	log   []string
	acts  []api.Act
	seen  map[string]int
}

func (x *player) note(what string, told ...any) {
	x.log = append(x.log, what+": "+fmt.Sprint(told...))
}

// conn is one of the connections that were dialled last, mostly.
func (x *player) conn() int {
	if x.dice.Intn(20) == 0 {
		return x.dice.Intn(x.conns)
	}
	return max(0, x.conns-1-x.dice.Intn(6))
}

// command is one that fits what there is, mostly.
func (x *player) command() api.Cmd {
	jobs := x.d.tells().jobs
	id := x.dice.Intn(len(jobs) + 3)
	if len(jobs) > 0 && x.dice.Intn(6) > 0 {
		id = jobs[x.dice.Intn(len(jobs))].Id
	}
	switch n := x.dice.Intn(60); {
	case n < 20:
		return put(1022+x.dice.Intn(4), max(0, x.dice.Intn(5)-3), 1+x.dice.Intn(5), strings.Repeat("\r\n.x"[x.dice.Intn(4):], x.dice.Intn(8)))
	case n < 21:
		return put(0, 0, 1, strings.Repeat("b", 95+x.dice.Intn(10)))
	case n < 26:
		return api.Cmd{Kind: api.CmdReserve}
	case n < 30:
		return api.Cmd{Kind: api.CmdReserveWithin, Number: x.dice.Intn(4)}
	case n < 31:
		return wrongCmds()[x.dice.Intn(len(wrongCmds()))]
	case n < 32:
		return api.Cmd{Kind: []int{api.CmdQuit, api.CmdStats, api.CmdStats}[x.dice.Intn(3)]}
	}
	line := []string{
		"delete #", "delete #", "release # 5 0", "release # 5 1", "bury # 3", "touch #", "peek #", "kick-job #", "stats-job #", "reserve-job #", "reserve-job #",
		"use @", "watch @", "ignore @", "stats-tube @", "pause-tube @ %", "kick %", "kick %", "peek-ready", "peek-delayed", "peek-buried", "list-tubes", "list-tube-used", "list-tubes-watched",
	}[x.dice.Intn(24)]
	tube := []string{"a", "b", "default", "default"}[x.dice.Intn(4)]
	return cmd(strings.NewReplacer("#", fmt.Sprint(id), "@", tube, "%", fmt.Sprint(x.dice.Intn(4))).Replace(line))
}

// step does one thing.
func (x *player) step() {
	k := x.conn()
	switch n := x.dice.Intn(40); {
	case n < 3:
		num := x.dice.Intn(7)
		if x.dice.Intn(9) == 0 {
			num = wrongConns[x.dice.Intn(len(wrongConns))]
		}
		there := x.d.dial(num)
		if there {
			x.conns++
		}
		x.note(fmt.Sprint("dial ", num), there)
	case n < 4 && x.dice.Intn(4) == 0:
		x.note(fmt.Sprint("close ", k), x.d.close(k))
	case n < 8:
		x.d.tick()
	case n < 9:
		acts := x.d.acts()
		x.acts = append(x.acts, acts...)
		x.note("acts", len(acts))
	case n < 16:
		x.note(fmt.Sprint("answer ", k), x.d.answer(k))
	case n < 20 && x.depth < 3:
		x.depth++
		most := x.dice.Intn(6) - 1
		x.note(fmt.Sprint("work ", k, " ", most), x.d.work(k, most, x.do()))
		x.depth--
	default:
		c := x.command()
		x.note(fmt.Sprint("call ", k, " ", show(c)), x.d.call(k, c))
	}
}

// do is what a worker has to do, which may play on meanwhile.
func (x *player) do() func(id int, body []byte) error {
	if x.dice.Intn(12) == 0 {
		return nil
	}
	return func(id int, body []byte) error {
		x.note("do", id, " ", string(body), " ", x.depth)
		scribble(body, '#')
		depth := x.depth
		defer func() { x.depth = depth }()
		if x.dice.Intn(2) == 0 {
			for range x.dice.Intn(6) {
				x.step()
			}
			x.seen[fmt.Sprint("played at ", x.depth)]++
		}
		switch x.dice.Intn(5) {
		case 0:
			return errors.New("no")
		case 1:
			panic([]any{"no", nil, 5, ErrNotFound}[x.dice.Intn(4)])
		}
		return nil
	}
}

// play lets a player do so many steps, and is what it wrote down.
func play(seed int64, d teller, steps int) *player {
	x := &player{dice: rand.New(rand.NewSource(seed)), d: d, seen: map[string]int{}}
	for num := range 3 {
		x.note("dial", d.dial(num))
		x.conns++
	}
	for i := range steps {
		x.step()
		if i%10 == 9 {
			x.note("it stands", fmt.Sprintf("%+v", d.tells()))
		}
	}
	x.acts = append(x.acts, d.acts()...)
	x.note("at the end", fmt.Sprintf("%+v", d.tells()))
	return x
}

// tellers are a desk and a plain one, to whose houses the same has come: jobs of a connection that is not theirs, and one that waits, or the wish to drain.
func tellers(t *testing.T, seed int) (*real, *plain) {
	t.Helper()
	c := []api.Config{five, small, small, wide, {JobMax: 40, Segment: 128, Quota: 2048}, {JobMax: 100, Segment: 300, Quota: 1300}}[seed%6]
	now := []int{0, 0, 10, 1<<40 - 20, 1 << 40}[seed%5]
	h, _, err := house.New(c, now)
	if err != api.OK {
		t.Fatalf("house.New = %d", err)
	}
	e, _, _ := engine.New(c, now)
	p := &plain{t: t, jobMax: c.JobMax, e: e}
	foreign := func(num int, line string, x api.Cmd) {
		if h.Join(num) == api.OK {
			e.Join(num)
			p.foreign = append(p.foreign, num)
		}
		h.Feed(num, []byte(line))
		e.Do(num, x)
	}
	for range seed % 4 {
		foreign(50, "put 5 0 2 1\r\nf\r\n", put(5, 0, 2, "f"))
	}
	if seed%7 == 0 {
		foreign(5, "reserve-with-timeout 9\r\n", api.Cmd{Kind: api.CmdReserveWithin, Number: 9})
		foreign(60, "reserve\r\n", api.Cmd{Kind: api.CmdReserve})
	}
	if seed%16 == 0 {
		h.Drain()
		e.Drain()
	}
	return &real{t: t, h: h, d: New(h)}, p
}

// wantPlay holds a play on a desk against the one on a plain one.
func wantPlay(t *testing.T, seed, steps int) *player {
	t.Helper()
	r, p := tellers(t, seed)
	got, want := play(int64(seed), r, steps), play(int64(seed), p, steps)
	for i, s := range want.log {
		if i >= len(got.log) || got.log[i] != s {
			t.Fatalf("seed %d, step %d: %s; want %s", seed, i, show(append(got.log, "nothing")[min(i, len(got.log))]), show(s))
		}
	}
	if len(got.log) != len(want.log) || !reflect.DeepEqual(ownActs(got.acts), ownActs(want.acts)) {
		t.Fatalf("seed %d: the acts are %s; want %s", seed, show(got.acts), show(want.acts))
	}
	return got
}

// ownActs are acts with lists of their own; one that is none is nil.
func ownActs(list []api.Act) []api.Act {
	var own []api.Act
	for _, a := range list {
		a.Data = append([]byte(nil), a.Data...)
		own = append(own, a)
	}
	return own
}

// P22.3 to P22.9: random plays against a plain desk.
func TestAgainstPlain(t *testing.T) {
	seen := map[string]int{}
	for seed := range 600 {
		x := wantPlay(t, seed, 300)
		for s, n := range x.seen {
			seen[s] += n
		}
		for _, s := range x.log {
			what, told, _ := strings.Cut(s, ": ")
			verb, _, _ := strings.Cut(what, " ")
			_, fault, failed := strings.Cut(told, "/ ")
			if failed && verb != "it" && verb != "at" {
				seen[verb+" "+fault]++
			}
			if verb == "work" {
				for _, end := range []string{"delete", "release", "bury", "lose"} {
					seen["did "+end] += strings.Count(told, " "+end)
				}
			}
			if word, _, _ := strings.Cut(told, " "); verb == "answer" {
				seen["answer "+word]++
			}
		}
	}
	for _, s := range []string{
		"call closed", "call no answer yet", "call not the protocol", "call put: too big", "call put: out of memory", "call put: draining", "call release: buried", "call ignore: not ignored",
		"call reserve: a reservation ends soon", "call reserve-with-timeout: timed out", "call delete: not found", "call kick-job: out of memory", "call reserve-job: out of memory",
		"answer RESERVED", "answer closed", "answer no answer yet", "answer not the protocol", "answer reserve: a reservation ends soon", "answer reserve-with-timeout: timed out", "close closed",
		"work closed", "work no answer yet", "work reserve-with-timeout: a reservation ends soon", "did delete", "did release", "did bury", "did lose", "played at 1", "played at 2", "played at 3",
	} {
		if seen[s] < 20 {
			t.Errorf("%q was seen %d times", s, seen[s])
		}
	}
}
