package judge

import "stint/api"

// judge is what it keeps of a history, up to an event.
type judge struct {
	most    int // the bytes that a body may have
	now     int
	drains  bool
	links   [api.MaxSeats]*link // by their numbers; nil: it is not open
	jobs    map[int]*job        // those that are known
	strange int                 // how many of them were not known by a RepInserted
	tubes   map[string]*tube
	bodies  map[string]struct{} // the lost ones
	losses  int                 // how many bodies were lost; one may be lost more than once
}

// newJudge is one that has seen nothing.
func newJudge(c api.Config) *judge {
	return &judge{most: c.JobMax, jobs: map[int]*job{}, tubes: map[string]*tube{}, bodies: map[string]struct{}{}}
}

// see looks at the next event, and tells what it breaks.
func (j *judge) see(e api.Event) *finds {
	var f finds
	if e.Kind != api.EvSaid && e.Kind != api.EvDown && j.isLate() {
		f.note(api.RuleTime, 0)
	}
	switch e.Kind {
	case api.EvOpened:
		j.open(e.Conn)
	case api.EvHeard:
		if x := j.links[e.Conn]; x != nil {
			x.heard.Feed(e.Data)
		}
	case api.EvDone:
		j.do(e.Conn, &f)
	case api.EvSaid:
		j.say(e.Conn, e.Data, &f)
	case api.EvHung:
		j.hang(e.Conn)
	case api.EvTicked, api.EvUp:
		j.now = e.Now
	case api.EvDown:
		j.now = e.Now
		j.fall()
	case api.EvDrains:
		j.drains = true
	}
	return &f
}

// isLate tells whether a task had to be answered by now.
func (j *judge) isLate() bool {
	for _, x := range j.links {
		if x != nil && x.task.asks != nil && !j.mayWait(x) {
			return true
		}
	}
	return false
}

// mayWait tells whether a connection may be told nothing for now.
func (j *judge) mayWait(x *link) bool {
	return x.task.reserves() && !j.isOver(x.task) && x.offers == 0
}

// isOver tells whether the timeout of a task, if it has one, is over.
func (j *judge) isOver(t task) bool {
	return t.cmd.Kind == api.CmdReserveWithin && j.now >= t.done+t.cmd.Number
}

// open lets a connection come. If it is open, it has gone first.
func (j *judge) open(conn int) {
	j.hang(conn)
	j.links[conn] = newLink(j.most)
	j.watch(j.links[conn], api.Default)
}

// do reads the next command of a connection as its task.
func (j *judge) do(conn int, f *finds) {
	x := j.links[conn]
	if x == nil || !x.next(j.now) {
		f.note(api.RuleAnswer, 0)
	}
}

// say reads replies to a connection.
func (j *judge) say(conn int, data []byte, f *finds) {
	x := j.links[conn]
	if x == nil {
		f.note(api.RuleAnswer, 0)
		return
	}
	x.told.Feed(data)
	for {
		r, there, err := x.told.Next()
		if err != api.OK {
			f.note(api.RuleForm, 0)
		}
		if !there {
			return
		}
		j.weigh(x, r, f)
	}
}

// hang lets a connection go, if it is open.
func (j *judge) hang(conn int) {
	x := j.links[conn]
	if x == nil {
		return
	}
	for _, b := range x.held {
		b.holder = nil
	}
	j.links[conn] = nil
}

// fall lets the power go.
func (j *judge) fall() {
	for conn, x := range j.links {
		if x != nil {
			j.lose(x.task.cmd)
			j.hang(conn)
		}
	}
	j.drains = false
}

// lose is a command that was not answered when the power went: it may have been done, or not.
func (j *judge) lose(c api.Cmd) {
	switch c.Kind {
	case api.CmdPut:
		j.bodies[string(c.Body)] = struct{}{}
		j.losses++
	case api.CmdDelete, api.CmdRelease, api.CmdBury, api.CmdKickJob, api.CmdReserveJob:
		b := j.jobs[c.Id]
		if b == nil {
			return
		}
		j.setFresh(b, false)
		if c.Kind == api.CmdDelete {
			b.doubtful = true
		} else {
			b.ranked = false
		}
	}
}
