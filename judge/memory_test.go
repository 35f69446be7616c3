package judge

import (
	"bytes"
	"fmt"
	"math/rand"
	"runtime"
	"slices"
	"strings"
	"sync"
	"testing"
	"time"

	"stint/api"
)

// R4, P21.9: what is handed in is not changed, nor the spare room behind it; and no answer shows what is written into another one, or into what was handed in.
func TestMemory(t *testing.T) {
	for seed := range 100 {
		l := made(seed, 60)
		want, _ := All(mild, l)
		room := make([]api.Event, len(l), len(l)+9)
		for i, e := range l {
			room[i] = e
			room[i].Data = append(bytes.Clone(e.Data), "\r\nspare"...)[:len(e.Data)]
		}
		before := whole(room)
		got, _ := All(mild, room)
		First(mild, room)
		if !same(before, whole(room)) {
			t.Fatalf("seed %d: what was handed in has changed", seed)
		}
		for i := range room {
			b := room[i].Data[:cap(room[i].Data)]
			for at := range b {
				b[at] = '#'
			}
			room[i] = api.Event{}
		}
		if !slices.Equal(got, want) {
			t.Fatalf("seed %d: what was told changes with what was handed in", seed)
		}
		got = got[:cap(got)]
		for i := range got {
			got[i] = api.Fault{At: -1, Rule: -1, Id: -1}
		}
		if again, _ := All(mild, l); !slices.Equal(again, want) {
			t.Fatalf("seed %d: it tells %s; want %s", seed, words(again), words(want))
		}
	}
}

// whole are events with the spare room of their bytes.
func whole(l []api.Event) []api.Event {
	list := own(l[:cap(l)])
	for i, e := range l[:cap(l)] {
		list[i].Data = bytes.Clone(e.Data[:cap(e.Data)])
	}
	return list
}

// R3: no events, no bytes: nil or empty.
func TestNothing(t *testing.T) {
	for _, l := range [][]api.Event{nil, {}, make([]api.Event, 0, 9)} {
		wantAll(t, l, "")
	}
	for _, data := range [][]byte{nil, {}, make([]byte, 0, 9)} {
		l := []api.Event{{Kind: api.EvOpened}, {Kind: api.EvHeard, Data: data}, {Kind: api.EvSaid, Data: data}, {Kind: api.EvDone}, {Kind: api.EvSaid, Data: data}}
		wantAll(t, l, "3 Answer")
	}
}

// R5: side by side it tells the same; no goroutine is left.
func TestSideBySide(t *testing.T) {
	before := runtime.NumGoroutine()
	l := made(3, 200)
	want, _ := All(mild, l)
	var group sync.WaitGroup
	for range 16 {
		group.Go(func() {
			for range 20 {
				if got, _ := All(mild, l); !slices.Equal(got, want) {
					t.Errorf("it tells %s; want %s", words(got), words(want))
				}
			}
		})
	}
	group.Wait()
	for range 100 {
		if runtime.NumGoroutine() <= before {
			return
		}
		time.Sleep(time.Millisecond)
	}
	t.Errorf("%d goroutines; want %d", runtime.NumGoroutine(), before)
}

// R1: any events, with any numbers and any bytes.
func TestAnything(t *testing.T) {
	for seed := range 300 {
		dice := rand.New(rand.NewSource(int64(seed)))
		l := make([]api.Event, 200)
		for i := range l {
			data := make([]byte, dice.Intn(40))
			for at := range data {
				data[at] = "\r\n\r\n ab01put\x00\xff"[dice.Intn(14)]
			}
			l[i] = api.Event{Kind: 1 + dice.Intn(10), Conn: pick(dice, 0, 0, 0, 63), Data: data, Now: pick(dice, 0, 1, api.MaxNow, dice.Intn(1<<40)), Code: api.Errno(dice.Intn(300))}
			if dice.Intn(3) == 0 {
				heard, _ := question(dice)
				l[i].Kind, l[i].Data = api.EvHeard, text(strings.NewReplacer("#", pick(dice, "0", "1", "4611686018427387903"), "%", pick(dice, "0", "4294967295"), "@", "default").Replace(heard))
			}
		}
		wantPlain(t, fmt.Sprint("seed ", seed), mild, l, map[int]int{})
	}
}

// The greatest numbers that commands and replies may have.
func TestGreatNumbers(t *testing.T) {
	const great = "put 4294967295 0 4294967295 1.a."
	judged(t, "O1; O2; T1099511627776; Q1 "+great+">INSERTED 1099511627776.; Q1 reserve.>RESERVED 1099511627776 1.a.; T0; Q2 reserve-job 1099511627776.>RESERVED 1099511627776 1.a.", "12 Hold 1099511627776")
	judged(t, "O1; O2; Q1 "+great+">INSERTED 1.; Q1 reserve.>RESERVED 1 1.a.; T4294967294; Q2 delete 1.>DELETED.; T4294967295; Q2 delete 1.>DELETED.", "11 Hold 1")
	judged(t, lostPut+"Q1 stats-job 4611686018427387903.>OK 0..; Q1 stats-job 4611686018427387902.>OK 0..", "11 Gone 4611686018427387902")
	judged(t, "O1; Q1 put 4294967295 0 1 1.a.>INSERTED 1.; Q1 put 4294967294 0 1 1.a.>INSERTED 2.; Q1 reserve.>RESERVED 1 1.a.", "9 Order 1")
}

// quick: a history of as many events as may be is judged in some seconds, whatever is in it; it has so many faults.
func quick(t *testing.T, what string, l []api.Event, want int) {
	t.Helper()
	l = l[:min(len(l), api.MaxEvents)]
	start := time.Now()
	faults, err := All(mild, l)
	if len(faults) != want || err != api.OK {
		t.Errorf("%s: %d faults, %s, %d; want %d", what, len(faults), words(faults[:min(9, len(faults))]), err, want)
	}
	if took := time.Since(start); took > 30*time.Second {
		t.Errorf("%s: %v", what, took)
	}
}

// R1: many jobs, tubes and connections.
func TestGreatHistories(t *testing.T) {
	var jobs, tubes, waits, held strings.Builder
	fmt.Fprint(&jobs, "O1;")
	for id := 1; id <= 10922; id++ {
		fmt.Fprintf(&jobs, "Q1 put %d 0 9 0..>INSERTED %d.;", 20000-id, id)
	}
	for id := 10922; id > 0; id-- {
		fmt.Fprintf(&jobs, "Q1 reserve.>RESERVED %d 0..;", id)
	}
	quick(t, "jobs", history(jobs.String()), 0)

	fmt.Fprint(&tubes, "O1;")
	for n := range 7000 {
		fmt.Fprintf(&tubes, "Q1 use t%d.>USING t%d.;Q1 watch t%d.>WATCHING %d.;", n, n, n, n+2)
	}
	for id := 1; id <= 7000; id++ {
		fmt.Fprintf(&tubes, "Q1 put 0 0 9 0..>INSERTED %d.;Q1 reserve.>RESERVED %d 0..;", id, id)
	}
	quick(t, "tubes", history(tubes.String()), 0)

	fmt.Fprint(&waits, "O63;")
	for n := range 63 {
		fmt.Fprintf(&waits, "O%d;", n)
		for i := range 100 {
			fmt.Fprintf(&waits, "Q%d watch t%d.>WATCHING %d.;", n, i, i+2)
		}
		fmt.Fprintf(&waits, "H%d reserve.;D%d;", n, n)
	}
	l := history(waits.String())
	for len(l) < api.MaxEvents {
		l = append(l, api.Event{Kind: api.EvTicked, Now: len(l)})
	}
	quick(t, "waits", l, 0)

	fmt.Fprint(&held, "O1;")
	for id := 1; id <= 6000; id++ {
		fmt.Fprintf(&held, "Q1 put 0 0 9 0..>INSERTED %d.;Q1 reserve.>RESERVED %d 0..;", id, id)
	}
	for range 9000 {
		fmt.Fprint(&held, "Q1 reserve.>DEADLINE_SOON.;")
	}
	quick(t, "held", history(held.String()), 9000)
}

// R1: many replies at once, and a great deal of bytes.
func TestGreatBytes(t *testing.T) {
	l := history("O1; H1 stats.; D1")
	l = append(l, api.Event{Kind: api.EvSaid, Conn: 1, Data: bytes.Repeat([]byte("PAUSED\r\n"), 1<<20)})
	quick(t, "replies", l, 1)
	l = history("O1")
	l = append(l, api.Event{Kind: api.EvHeard, Conn: 1, Data: bytes.Repeat([]byte("stats\r\n"), 1<<20)})
	for range 30000 {
		l = append(l, history("D1; S1 OK 0..")...)
	}
	quick(t, "lines", l, 0)
	l = []api.Event{{Kind: api.EvOpened}, {Kind: api.EvHeard, Data: make([]byte, 1<<25)}, {Kind: api.EvDone}, {Kind: api.EvSaid, Data: make([]byte, 1<<25)}}
	quick(t, "no lines", l, 2)
}
