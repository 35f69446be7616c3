package engine

import (
	"slices"

	"stint/api"
	"stint/names"
)

// turn is what one call does to an engine, and what comes of it.
type turn struct {
	*Engine
	conn    int         // whose command is done
	stirred *names.Book // the tubes that may have a job for somebody who waits
	acts    []api.Act
	says    []api.Out
}

func newTurn(e *Engine, conn int) *turn { return &turn{Engine: e, conn: conn, stirred: names.New()} }

// write notes acts for the files.
func (t *turn) write(acts []api.Act) { t.acts = append(t.acts, acts...) }

// say notes a reply.
func (t *turn) say(conn int, r api.Reply) {
	t.says = append(t.says, api.Out{Kind: api.OutSay, Conn: conn, Reply: r})
}

// outs are the acts, and behind them what is said.
func (t *turn) outs() []api.Out {
	list := make([]api.Out, 0, len(t.acts)+len(t.says))
	for _, a := range t.acts {
		list = append(list, api.Out{Kind: api.OutAct, Act: a})
	}
	return append(list, t.says...)
}

// stir notes that a tube has a ready job more, or is paused no longer.
func (t *turn) stir(name string) { t.stirred.Hold(name) }

// match hands out jobs to those that wait. As nobody waits between two calls for a job that is there, no tube but those
// that were stirred has to be looked at.
func (t *turn) match() {
	heads := t.heads()
	for len(heads) > 0 {
		j := heads[0]
		heads = heads[1:]
		conn := t.seats.First(j.Tube)
		if conn < 0 {
			continue // those that waited for it were handed better ones
		}
		t.seats.Stop(conn)
		t.say(conn, t.reserve(j, conn))
		if next, there := t.firstReady(j.Tube); there {
			place, _ := slices.BinarySearchFunc(heads, next, byRank)
			heads = slices.Insert(heads, place, next)
		}
	}
}

// heads are the first ready jobs of the stirred tubes for which somebody waits, by rank.
func (t *turn) heads() []api.Job {
	var heads []api.Job
	for name := range t.stirred.All() {
		if t.seats.First(name) < 0 {
			continue
		}
		if j, there := t.firstReady(name); there {
			heads = append(heads, j)
		}
	}
	slices.SortFunc(heads, byRank)
	return heads
}

// reserve gives a job to a connection, and is what that is told.
func (t *turn) reserve(j api.Job, conn int) api.Reply {
	j = as(j, api.Reserved)
	j.Holder, j.Due = conn, t.now+j.TTR
	j.Counts.Reserves = more(j.Counts.Reserves)
	t.set(j)
	return api.Reply{Kind: api.RepReserved, Id: j.Id, Body: j.Body}
}

// free makes a job ready, of which nothing is written.
func (t *turn) free(j api.Job) {
	t.set(as(j, api.Ready))
	t.stir(j.Tube)
}

// change stores a job as it is to be, which is neither buried nor reserved; false: there is no room for that.
func (t *turn) change(j api.Job) bool {
	acts, err := t.ledger.Change(storedOf(j))
	t.write(acts)
	return err == api.OK
}

// bury buries a job with a new priority; for that there is always room, as it is not stored as a buried one.
func (t *turn) bury(j api.Job, pri int) api.Reply {
	j = as(j, api.Buried)
	j.Pri, j.Order = pri, t.burials.next()
	j.Counts.Buries = more(j.Counts.Buries)
	acts, _ := t.ledger.Bury(storedOf(j))
	t.write(acts)
	t.set(j)
	return only(api.RepBuried)
}

// kick makes a job ready that is delayed or buried; false: there is no room for that.
func (t *turn) kick(j api.Job) bool {
	j = as(j, api.Ready)
	j.Counts.Kicks = more(j.Counts.Kicks)
	if !t.change(j) {
		return false
	}
	t.free(j)
	return true
}

// endDelays makes the jobs ready whose delay or whose time to run is over.
func (t *turn) endDelays() {
	delayed, reserved := t.yard.Over(t.now)
	for _, id := range delayed {
		j, _ := t.yard.Get(id)
		t.free(j)
	}
	for _, id := range reserved {
		j, _ := t.yard.Get(id)
		j.Counts.Timeouts = more(j.Counts.Timeouts)
		t.free(j)
		t.timeouts++
	}
}

// endPauses ends the pauses that are over.
func (t *turn) endPauses() {
	for name, x := range t.tubes {
		if x.pause == 0 || t.paused(name) {
			continue
		}
		x.pause, x.until = 0, 0
		t.tubes[name] = x
		t.stir(name)
	}
}

// endWaits tells those that can wait no longer.
func (t *turn) endWaits() {
	for _, conn := range t.seats.Waiters() {
		if r := t.endOfWait(conn); r.Kind != 0 {
			t.seats.Stop(conn)
			t.say(conn, r)
		}
	}
}

// endOfWait is what a connection that waits is told by the clock; a reply without a kind: nothing.
func (t *turn) endOfWait(conn int) api.Reply {
	s, _ := t.seats.Get(conn)
	switch {
	case t.soon(conn):
		return only(api.RepSoon)
	case s.Until >= 0 && s.Until <= t.now: // below 0: it waits for good
		return only(api.RepTimedOut)
	}
	return api.Reply{}
}
