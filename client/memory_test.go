package client

import (
	"bytes"
	"errors"
	"fmt"
	"reflect"
	"runtime"
	"slices"
	"strings"
	"sync"
	"testing"
	"time"

	"stint/api"
	"stint/house"
)

// scribble writes over a list and its spare room.
func scribble[T any](list []T, x T) {
	list = list[:cap(list)]
	for i := range list {
		list[i] = x
	}
}

func scribbleActs(acts []api.Act) {
	for _, a := range acts {
		scribble(a.Data, '#')
	}
	scribble(acts, api.Act{Kind: 99, Data: []byte("#")})
}

// scribbler is a desk in all of whose answers is written over.
type scribbler struct{ *real }

func (s scribbler) call(k int, x api.Cmd) string {
	room := append(slices.Clone(x.Body), "\r\nquit\r\nspare"...)
	whole := bytes.Clone(room)
	x.Body = room[:len(x.Body)]
	reply, err := s.conns[k].Call(x)
	if !bytes.Equal(room, whole) {
		s.t.Fatalf("what was handed in became %q", room)
	}
	scribble(room, '#')
	return s.over(reply, err)
}

func (s scribbler) answer(k int) string { return s.over(s.conns[k].Answer()) }

func (s scribbler) over(reply api.Reply, err error) string {
	text := told(s.t, reply, err)
	scribble(reply.Body, '#')
	var f *Refusal
	if errors.As(err, &f) {
		f.Cmd, f.Reply = 99, 99
	}
	return text
}

func (s scribbler) work(k, most int, do func(id int, body []byte) error) string {
	list, err := s.conns[k].Work(most, do)
	text := didText(list)
	if err != nil {
		text += "/ " + err.Error()
	}
	scribble(list, api.Did{Id: 99, End: 99})
	return text
}

func (s scribbler) acts() []api.Act {
	acts := s.d.Acts()
	own := ownActs(acts)
	for i, a := range acts {
		scribble(a.Data, byte(i))
	}
	for i, a := range acts {
		if data := a.Data[:cap(a.Data)]; bytes.Count(data, []byte{byte(i)}) != len(data) {
			s.t.Fatalf("the bytes of the act %d are those of another one, too", i)
		}
	}
	scribbleActs(acts)
	return own
}

// R4: whatever a caller writes into answers, or into what it has handed in, no other answer shows it.
func TestMemory(t *testing.T) {
	for seed := range 120 {
		x, p := tellers(t, seed)
		got, want := play(int64(seed), scribbler{x}, 300), play(int64(seed), p, 300)
		if !slices.Equal(got.log, want.log) || !reflect.DeepEqual(ownActs(got.acts), ownActs(want.acts)) {
			t.Fatalf("seed %d: it tells other things", seed)
		}
	}
}

// R4: an answer stays as it was told, whatever is done later.
func TestAnswersStay(t *testing.T) {
	b := newBench(t, wide, 0, 1, 2)
	c := b.conns[1]
	c.Call(put(0, 0, 9, "body"))
	acts := b.d.Acts()
	first, _ := c.Call(cmd("peek 1"))
	_, fault := c.Call(cmd("delete 9"))
	var kept []byte
	list, _ := c.Work(1, func(_ int, body []byte) error {
		kept = body
		return errDo
	})
	ownList, own := slices.Clone(list), ownActs(acts)
	for i := range 20 {
		b.call(2, put(i, 0, 9, "other"), fmt.Sprint("INSERTED ", i+2))
	}
	c.Work(9, fine)
	c.Call(cmd("bury 9 9"))
	b.close(1, nil)
	if string(first.Body) != "body" || string(kept) != "body" || fault.Error() != "delete: not found" || !slices.Equal(list, ownList) || !reflect.DeepEqual(ownActs(acts), own) {
		t.Errorf("an earlier answer has changed")
	}
}

func heapInUse() int {
	runtime.GC()
	var m runtime.MemStats
	runtime.ReadMemStats(&m)
	return int(m.HeapAlloc)
}

// Of a connection that is closed nothing is kept: neither an answer that was not told, nor the house.
func TestClosedKeepsNothing(t *testing.T) {
	var closed []*Conn
	body := strings.Repeat("b", 10000)
	b := newBench(t, wide, 0, 1)
	before := heapInUse()
	for i := range 2000 {
		c := b.dial(2)
		b.call(2, cmd("reserve"), "/ no answer yet")
		b.call(1, put(0, 0, 9, body), fmt.Sprint("INSERTED ", i+1))
		b.close(2, nil)
		b.call(1, cmd(fmt.Sprint("delete ", i+1)), "DELETED")
		b.d.Acts()
		closed = append(closed, c)
	}
	if grown := heapInUse() - before; grown > 4<<20 {
		t.Errorf("%d bytes are kept", grown)
	}
	runtime.KeepAlive(b)
	before = heapInUse()
	for range 300 {
		b := newBench(t, wide, 0, 1, 2)
		b.call(1, put(0, 0, 9, body), "INSERTED 1")
		b.call(1, cmd("quit"), "")
		b.close(2, nil)
		closed = append(closed, b.conns[1], b.conns[2])
	}
	if grown := heapInUse() - before; grown > 2<<20 {
		t.Errorf("%d bytes are kept of houses that are gone", grown)
	}
	runtime.KeepAlive(closed)
}

// Of what is over nothing is kept.
func TestLongLife(t *testing.T) {
	h, _, _ := house.New(wide, 0)
	b := benchOf(t, h, 1, 2)
	body := strings.Repeat("b", 2000)
	round := func() {
		b.conns[2].Call(cmd("reserve-with-timeout 1"))
		b.conns[1].Call(put(0, 0, 9, body))
		b.conns[2].Answer()
		b.conns[1].Call(put(0, 0, 9, body))
		b.conns[1].Call(cmd("stats"))
		b.conns[1].Work(2, func(int, []byte) error { return nil })
		b.close(2, nil)
		b.dial(2)
		b.conns[2].Work(9, fine)
		b.conns[2].Call(cmd("reserve-with-timeout 1"))
		b.d.Tick()
		b.conns[2].Answer()
		b.d.Acts()
	}
	for range 200 {
		round()
	}
	before := heapInUse()
	for range 3000 {
		round()
	}
	if grown := heapInUse() - before; grown > 1<<20 {
		t.Errorf("%d bytes are kept", grown)
	}
	b.jobs("")
}

// wantSoon tells whether what began at a time took too long.
func wantSoon(t *testing.T, start time.Time) {
	t.Helper()
	if took := time.Since(start); took > 60*time.Second {
		t.Errorf("it took %v", took)
	}
}

// R1: many jobs are put, worked on, and the acts of all are asked for at once; works stand deep within one another.
func TestMany(t *testing.T) {
	start := time.Now()
	const most = 20000
	b := newBench(t, api.Config{JobMax: 65535, Segment: 1 << 20, Quota: 1 << 26}, 0, 1, 2)
	for i := range most {
		if r, err := b.conns[2].Call(put(i*7919%most, 0, 9, "x")); r.Id != i+1 || err != nil {
			t.Fatalf("the put %d: %+v, %v", i, r, err)
		}
	}
	if n := len(b.d.Acts()); n < 2*most {
		t.Errorf("%d acts", n)
	}
	list, err := b.conns[1].Work(1<<40, fine)
	if len(list) != most || err != nil || list[0].Id != 1 {
		t.Fatalf("Work: %d, %v", len(list), err)
	}
	deep := 0
	for range 3000 {
		b.conns[2].Call(put(0, 0, 9, "x"))
	}
	var do func(id int, body []byte) error
	do = func(int, []byte) error {
		deep++
		if list, err := b.conns[1].Work(1, do); len(list) > 1 || err != nil {
			t.Errorf("Work: %v, %v", list, err)
		}
		return nil
	}
	if list, err := b.conns[1].Work(1, do); len(list) != 1 || err != nil || deep != 3000 {
		t.Errorf("%d deep: %v, %v", deep, list, err)
	}
	b.jobs("")
	wantSoon(t, start)
}

// R1: the greatest body goes through, and one of the wildest bytes.
func TestGreatBodies(t *testing.T) {
	b := newBench(t, api.Config{JobMax: 65535, Segment: 1 << 18, Quota: 1 << 20}, 0, 1, 2)
	wild := make([]byte, 65535)
	for i := range wild {
		wild[i] = byte(i * 7)
	}
	copy(wild, "\r\nquit\r\n")
	copy(wild[65533:], "\r\n")
	b.call(2, put(0, 0, 9, string(wild)), "INSERTED 1")
	list, err := b.conns[1].Work(9, func(_ int, body []byte) error {
		if !bytes.Equal(body, wild) {
			t.Errorf("the body is another one")
		}
		return nil
	})
	if didText(list) != "1 delete" || err != nil {
		t.Errorf("Work = %v, %v", list, err)
	}
}

// R5: desks side by side tell the same of the same calls.
func TestSideBySide(t *testing.T) {
	logs := make([][]string, 8)
	var group sync.WaitGroup
	for i := range logs {
		group.Go(func() {
			r, _ := tellers(t, 3)
			logs[i] = play(7, r, 2000).log
		})
	}
	group.Wait()
	for i := range logs {
		if !slices.Equal(logs[i], logs[0]) {
			t.Errorf("the desk %d tells other things than the first one", i)
		}
	}
}

// R3: a body that is nil and one that is empty are the same.
func TestNoBody(t *testing.T) {
	for _, body := range [][]byte{nil, {}, make([]byte, 0, 9)} {
		b := newBench(t, wide, 0, 1)
		b.call(1, api.Cmd{Kind: api.CmdPut, TTR: 9, Body: body}, "INSERTED 1")
		b.call(1, api.Cmd{Kind: api.CmdPeek, Id: 1, Body: body}, "FOUND 1 0.")
		b.work(1, 9, func(_ int, body []byte) error {
			if len(body) != 0 {
				t.Errorf("the body is %q", body)
			}
			return nil
		}, "1 delete")
	}
}
