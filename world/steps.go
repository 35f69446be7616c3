package world

import (
	"bytes"

	"stint/api"
	"stint/house"
)

// deed is what a step of a kind does: its events, or why it is refused.
type deed func(w *World, s api.Step) ([]api.Event, api.Errno)

// deedOf is the deed of a kind.
func deedOf(kind int) deed {
	switch kind {
	case api.StOpen:
		return (*World).open
	case api.StFeed:
		return (*World).feed
	case api.StHang:
		return (*World).hang
	case api.StTick:
		return (*World).tick
	case api.StDrain:
		return (*World).drain
	case api.StCrash:
		return (*World).crash
	case api.StStart:
		return (*World).start
	}
	return (*World).refuse
}

func (w *World) refuse(api.Step) ([]api.Event, api.Errno) { return nil, api.ErrWorldStep }

func (w *World) open(s api.Step) ([]api.Event, api.Errno) {
	if !w.Up() {
		return nil, api.ErrWorldDown
	}
	if err := w.house.Join(s.Conn); err != api.OK {
		return nil, err
	}
	return []api.Event{{Kind: api.EvOpened, Conn: s.Conn}}, api.OK
}

func (w *World) feed(s api.Step) ([]api.Event, api.Errno) {
	if !w.Up() {
		return nil, api.ErrWorldDown
	}
	outs, err := w.house.Feed(s.Conn, s.Data)
	if err != api.OK {
		return nil, err
	}
	heard := api.Event{Kind: api.EvHeard, Conn: s.Conn, Data: bytes.Clone(s.Data)}
	return w.follow(heard, outs, s), api.OK
}

func (w *World) hang(s api.Step) ([]api.Event, api.Errno) {
	if !w.Up() {
		return nil, api.ErrWorldDown
	}
	outs, err := w.house.Hang(s.Conn)
	if err != api.OK {
		return nil, err
	}
	return w.follow(api.Event{Kind: api.EvHung, Conn: s.Conn}, outs, s), api.OK
}

func (w *World) tick(s api.Step) ([]api.Event, api.Errno) {
	if !w.Up() {
		w.now = min(w.now+1, api.MaxNow)
		return []api.Event{{Kind: api.EvTicked, Now: w.now}}, api.OK
	}
	outs := w.house.Tick()
	w.now = w.house.Now()
	return w.follow(api.Event{Kind: api.EvTicked, Now: w.now}, outs, s), api.OK
}

func (w *World) drain(api.Step) ([]api.Event, api.Errno) {
	if !w.Up() {
		return nil, api.ErrWorldDown
	}
	w.house.Drain()
	return []api.Event{{Kind: api.EvDrains}}, api.OK
}

func (w *World) crash(s api.Step) ([]api.Event, api.Errno) {
	if !w.Up() {
		return nil, api.ErrWorldDown
	}
	return []api.Event{w.lose(s.Keep)}, api.OK
}

func (w *World) start(s api.Step) ([]api.Event, api.Errno) {
	if w.Up() {
		return nil, api.ErrWorldUp
	}
	h, acts, err := house.Open(w.config, w.now, w.disk.Files())
	if err != api.OK {
		return nil, err
	}
	w.house = h
	events := w.carryOut(outsOf(acts), s)
	if w.Up() {
		events = append(events, api.Event{Kind: api.EvUp, Now: w.now})
	}
	return events, api.OK
}
