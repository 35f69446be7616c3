package engine

import (
	"stint/api"
	"stint/names"
)

// Jobs, Stored, Tubes, Seats and Shop tell how it stands.
func (e *Engine) Jobs() []api.Job { return e.yard.Jobs() }

func (e *Engine) Stored() []api.Stored { return e.ledger.Jobs() }

func (e *Engine) Tubes() []api.Tube {
	var list []api.Tube
	for _, name := range e.tubeNames() {
		list = append(list, e.toldTube(name))
	}
	return list
}

func (e *Engine) Seats() []api.Seat {
	var list []api.Seat
	for _, conn := range e.seats.Nums() {
		s, _ := e.seats.Get(conn)
		list = append(list, s)
	}
	return list
}

func (e *Engine) Shop() api.Shop {
	oldest, newest := e.ledger.Files()
	s := api.Shop{
		Now:      e.now,
		Start:    e.start,
		Sums:     e.yard.All(),
		Done:     e.done,
		Timeouts: e.timeouts,
		Total:    e.total,
		Opened:   e.opened,
		Tubes:    len(e.tubeNames()),
		Waiting:  len(e.seats.Waiters()),
		JobMax:   e.config.JobMax,
		Oldest:   oldest,
		Newest:   newest,
		Moved:    e.ledger.Moved(),
		Written:  e.ledger.Written(),
		Room:     e.ledger.Room(),
		Segment:  e.config.Segment,
		Draining: e.draining,
	}
	for _, seat := range e.Seats() {
		s.Seats++
		s.Producers += one(seat.Puts)
		s.Workers += one(seat.Takes)
	}
	return s
}

// one is 1 of what is so.
func one(is bool) int {
	if is {
		return 1
	}
	return 0
}

// tubeNames are the tubes that are there, rising.
func (e *Engine) tubeNames() []string {
	all := names.New() // a book puts them in order, and tells each one once
	all.Hold(api.Default)
	for _, name := range e.yard.Tubes() {
		all.Hold(name)
	}
	for _, name := range e.seats.Tubes() {
		all.Hold(name)
	}
	return all.Names()
}

func (e *Engine) toldTube(name string) api.Tube {
	x := e.tubes[name]
	return api.Tube{
		Name:     name,
		Sums:     e.yard.Sums(name),
		Using:    e.seats.Using(name),
		Watching: e.seats.Watching(name),
		Waiting:  e.seats.Waiting(name),
		Total:    x.total,
		Deletes:  x.deletes,
		Pauses:   x.pauses,
		Pause:    x.pause,
		Until:    x.until,
	}
}
