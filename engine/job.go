package engine

import (
	"cmp"

	"stint/api"
)

// as is a job in another state. What it had of its old one alone is not carried over.
func as(j api.Job, state int) api.Job {
	j.State, j.Due, j.Order, j.Holder = state, 0, 0, -1
	return j
}

// delayedTill is a job that is delayed till a tick, or ready, if that is not ahead.
func delayedTill(j api.Job, due, now int) api.Job {
	if due <= now {
		return as(j, api.Ready)
	}
	j = as(j, api.Delayed)
	j.Due = due
	return j
}

// jobOf is a stored job as it stands at a clock, with no connection there.
func jobOf(s api.Stored, now int) api.Job {
	j := api.Job{Id: s.Id, Pri: s.Pri, Delay: s.Delay, TTR: s.TTR, Born: s.Born, Counts: s.Counts, Tube: s.Tube, Body: s.Body}
	if s.State != api.Buried {
		return delayedTill(j, s.Due, now)
	}
	j = as(j, api.Buried)
	j.Order = s.Order
	return j
}

// storedOf is a job that nobody holds as the log has it.
func storedOf(j api.Job) api.Stored {
	return api.Stored{Id: j.Id, Pri: j.Pri, Delay: j.Delay, TTR: j.TTR, Born: j.Born, State: j.State, Due: j.Due, Order: j.Order, Counts: j.Counts, Tube: j.Tube, Body: j.Body}
}

// more is one more of what counts up to MaxWord.
func more(n int) int { return min(n+1, api.MaxWord) }

func byRank(x, y api.Job) int {
	return cmp.Or(cmp.Compare(x.Pri, y.Pri), cmp.Compare(x.Id, y.Id))
}

// add lets a job come.
func (e *Engine) add(j api.Job) {
	e.yard.Add(j)
	if j.State == api.Buried {
		e.burials.add(j.Id, j.Order)
	}
	x := e.tubes[j.Tube]
	x.total++
	e.tubes[j.Tube] = x
	e.total++
}

// set makes a job another one.
func (e *Engine) set(j api.Job) {
	e.yard.Set(j)
	e.burials.remove(j.Id)
	if j.State == api.Buried {
		e.burials.add(j.Id, j.Order)
	}
}

// remove lets a job go.
func (e *Engine) remove(j api.Job) {
	e.yard.Delete(j.Id)
	e.burials.remove(j.Id)
	x := e.tubes[j.Tube]
	x.deletes++
	e.tubes[j.Tube] = x
	e.forget(j.Tube)
}

// firstReady is the job of a tube that is handed out next; false: there is none, or the tube is paused.
func (e *Engine) firstReady(name string) (api.Job, bool) {
	if e.paused(name) {
		return api.Job{}, false
	}
	return e.yard.Get(e.yard.Ready(name))
}

// soon tells whether a job that a connection holds runs out of time.
func (e *Engine) soon(conn int) bool {
	held := e.yard.Held(conn)
	if len(held) == 0 {
		return false
	}
	first, _ := e.yard.Get(held[0])
	return first.Due <= e.now+api.Margin
}
