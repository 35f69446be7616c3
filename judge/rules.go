package judge

import (
	"bytes"

	"stint/api"
)

// answer is a reply that a task may have.
type answer struct {
	api.Reply
	task task
	to   *link
	id   int  // that of the job that it speaks of; else that of the task
	job  *job // nil: none of that id is known
}

// weigh looks at a reply to a connection.
func (j *judge) weigh(x *link, r api.Reply, f *finds) {
	t := x.task
	right := t.asks != nil && t.asks.allows(j, x, toldOf(r))
	x.task = task{}
	if !right {
		f.note(api.RuleAnswer, 0)
		return
	}
	a := answer{Reply: r, task: t, to: x, id: t.cmd.Id}
	if r.Kind == api.RepInserted || r.Kind == api.RepReserved || r.Kind == api.RepFound {
		a.id = r.Id
	}
	a.job = j.jobs[a.id]
	broken := j.broken(a)
	for _, rule := range broken {
		f.note(rule, a.id)
	}
	if len(broken) == 0 {
		j.follow(a)
	}
}

// speaks tells whether it speaks of a job.
func (a answer) speaks() bool {
	switch a.Kind {
	case api.RepInserted, api.RepReserved, api.RepFound, api.RepDeleted, api.RepReleased, api.RepBuried, api.RepTouched, api.RepKickedJob:
		return true
	}
	return a.Kind == api.RepData && a.task.cmd.Kind == api.CmdStatsJob
}

// broken tells the rules that an answer breaks.
func (j *judge) broken(a answer) []int {
	if a.Kind == api.RepInserted {
		if a.job != nil {
			return []int{api.RuleAgain}
		}
		return nil
	}
	if a.speaks() && j.isGone(a.job) {
		return []int{api.RuleGone}
	}
	var list []int
	if j.breaksBody(a) {
		list = append(list, api.RuleBody)
	}
	if j.breaksHold(a) {
		list = append(list, api.RuleHold)
	}
	if breaksTube(a) {
		list = append(list, api.RuleTube)
	}
	if breaksOrder(a) {
		list = append(list, api.RuleOrder)
	}
	if j.breaksLost(a) {
		list = append(list, api.RuleLost)
	}
	return list
}

// isGone tells whether a job can't be told; one that is not known can, if it may have come of a put that was lost.
func (j *judge) isGone(b *job) bool {
	if b == nil {
		return j.strange >= j.losses
	}
	return b.gone
}

func (j *judge) breaksBody(a answer) bool {
	if a.Kind != api.RepReserved && a.Kind != api.RepFound {
		return false
	}
	if a.job != nil && a.job.read {
		return !bytes.Equal(a.job.body, a.Body)
	}
	_, lost := j.bodies[string(a.Body)]
	return !lost
}

func (j *judge) breaksHold(a answer) bool {
	switch a.Kind {
	case api.RepReserved, api.RepKickedJob:
		return j.isHeld(a.job)
	case api.RepDeleted:
		return j.isHeld(a.job) && a.job.holder != a.to
	case api.RepReleased, api.RepBuried, api.RepTouched:
		return !j.mayHold(a.to, a.job)
	}
	return false
}

func breaksTube(a answer) bool {
	if a.job == nil || a.job.tube == "" {
		return false
	}
	switch a.Kind {
	case api.RepReserved:
		return a.task.reserves() && !a.to.watches(a.job.tube)
	case api.RepFound:
		return a.task.peeksFirst() && a.job.tube != a.to.uses
	}
	return false
}

func breaksOrder(a answer) bool {
	switch a.Kind {
	case api.RepReserved:
		return a.task.reserves() && a.job != nil && a.job.ranked && a.to.hasAhead(a.job.rank())
	case api.RepSoon, api.RepTimedOut:
		return a.to.offers > 0
	}
	return false
}

func (j *judge) breaksLost(a answer) bool {
	if a.Kind != api.RepNotFound {
		return false
	}
	if a.task.cmd.Kind == api.CmdPeekReady {
		return j.hasFresh(a.to.uses)
	}
	if a.job == nil {
		return false
	}
	switch a.task.cmd.Kind {
	case api.CmdPeek, api.CmdStatsJob:
		return !a.job.gone && !a.job.doubtful
	case api.CmdDelete:
		return a.job.fresh || j.surelyHolds(a.to, a.job)
	case api.CmdReserveJob:
		return a.job.fresh
	case api.CmdRelease, api.CmdBury, api.CmdTouch:
		return j.surelyHolds(a.to, a.job)
	}
	return false
}
