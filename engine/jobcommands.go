package engine

import "stint/api"

// The commands that do something to jobs.
type (
	putJob struct {
		pri, delay, ttr int
		body            []byte
	}
	reserveFirst  struct{}
	reserveWithin struct{ ticks int }
	reserveJob    struct{ id int }
	deleteJob     struct{ id int }
	releaseJob    struct{ id, pri, delay int }
	buryJob       struct{ id, pri int }
	touchJob      struct{ id int }
	kickFirst     struct{ bound int }
	kickJob       struct{ id int }
)

func (c putJob) do(t *turn) api.Reply {
	if t.draining {
		return only(api.RepDraining)
	}
	j := api.Job{Pri: c.pri, Delay: c.delay, TTR: c.ttr, Born: t.now, Tube: t.used(), Body: c.body}
	j = delayedTill(j, t.now+c.delay, t.now)
	id, acts, err := t.ledger.Put(storedOf(j))
	if err != api.OK {
		return only(api.RepNoMemory)
	}
	t.write(acts)
	j.Id = id
	t.add(j)
	t.stir(j.Tube)
	return api.Reply{Kind: api.RepInserted, Id: id}
}

func (c reserveFirst) do(t *turn) api.Reply {
	r := t.take()
	if r.Kind == 0 {
		t.seats.Wait(t.conn, -1)
	}
	return r
}

func (c reserveWithin) do(t *turn) api.Reply {
	r := t.take()
	if r.Kind != 0 {
		return r
	}
	if c.ticks == 0 {
		return only(api.RepTimedOut)
	}
	t.seats.Wait(t.conn, t.now+c.ticks)
	return r
}

// take is what a connection that asks for a job is told at once; a reply without a kind: nothing.
func (t *turn) take() api.Reply {
	s, _ := t.seats.Get(t.conn)
	var best api.Job
	for _, name := range s.Watched {
		if j, there := t.firstReady(name); there && (best.Id == 0 || byRank(j, best) < 0) {
			best = j
		}
	}
	if best.Id != 0 {
		return t.reserve(best, t.conn)
	}
	if t.soon(t.conn) {
		return only(api.RepSoon)
	}
	return api.Reply{}
}

func (c reserveJob) do(t *turn) api.Reply {
	j, there := t.yard.Get(c.id)
	if !there || j.State == api.Reserved {
		return only(api.RepNotFound)
	}
	if j.State != api.Ready {
		// Else, behind a crash, it would be delayed or buried though its client had it.
		stored := as(j, api.Ready)
		stored.Counts.Reserves = more(j.Counts.Reserves)
		if !t.change(stored) {
			return only(api.RepNoMemory)
		}
	}
	return t.reserve(j, t.conn)
}

func (c deleteJob) do(t *turn) api.Reply {
	j, there := t.yard.Get(c.id)
	if !there || j.State == api.Reserved && j.Holder != t.conn {
		return only(api.RepNotFound)
	}
	acts, _ := t.ledger.Gone(c.id) // it is stored, and for this there is always room
	t.write(acts)
	t.remove(j)
	return only(api.RepDeleted)
}

func (c releaseJob) do(t *turn) api.Reply {
	j, holds := t.held(c.id)
	if !holds {
		return only(api.RepNotFound)
	}
	released := delayedTill(j, t.now+c.delay, t.now)
	released.Pri, released.Delay = c.pri, c.delay
	released.Counts.Releases = more(j.Counts.Releases)
	if !t.change(released) {
		return t.bury(j, c.pri)
	}
	t.set(released)
	t.stir(j.Tube)
	return only(api.RepReleased)
}

func (c buryJob) do(t *turn) api.Reply {
	j, holds := t.held(c.id)
	if !holds {
		return only(api.RepNotFound)
	}
	return t.bury(j, c.pri)
}

func (c touchJob) do(t *turn) api.Reply {
	j, holds := t.held(c.id)
	if !holds {
		return only(api.RepNotFound)
	}
	j.Due = t.now + j.TTR
	t.set(j)
	return only(api.RepTouched)
}

func (c kickFirst) do(t *turn) api.Reply {
	name := t.used()
	first := t.yard.Eldest
	if first(name) == 0 {
		first = t.yard.Soonest
	}
	count := 0
	for count < c.bound {
		j, there := t.yard.Get(first(name))
		if !there || !t.kick(j) {
			break
		}
		count++
	}
	return api.Reply{Kind: api.RepKicked, Number: count}
}

func (c kickJob) do(t *turn) api.Reply {
	j, there := t.yard.Get(c.id)
	if !there || j.State != api.Delayed && j.State != api.Buried {
		return only(api.RepNotFound)
	}
	if !t.kick(j) {
		return only(api.RepNoMemory)
	}
	return only(api.RepKickedJob)
}

// used is the tube that the command's connection uses.
func (t *turn) used() string {
	s, _ := t.seats.Get(t.conn)
	return s.Used
}

// held is a job that the command's connection holds; false: it does not. (None but a reserved one has a holder.)
func (t *turn) held(id int) (api.Job, bool) {
	j, there := t.yard.Get(id)
	return j, there && j.Holder == t.conn
}
