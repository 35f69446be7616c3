package judge

import "stint/api"

// follow is what comes of an answer that breaks no rule.
func (j *judge) follow(a answer) {
	if a.speaks() && a.job == nil {
		a.job = j.meet(a)
	}
	b, cmd := a.job, a.task.cmd
	switch a.Kind {
	case api.RepReserved:
		b.see(a.Body)
		j.setFresh(b, false)
		j.hold(b, a.to)
	case api.RepFound:
		b.see(a.Body)
	case api.RepTouched:
		j.prolong(b)
	case api.RepDeleted:
		b.gone = true
		j.setFresh(b, false)
		b.letGo()
	case api.RepReleased:
		j.rest(b, cmd.Pri)
		j.setFresh(b, b.tube != "" && cmd.Delay == 0)
	case api.RepBuried:
		j.rest(b, cmd.Pri)
	case api.RepKickedJob:
		j.setFresh(b, b.tube != "" && b.ranked)
	case api.RepUsing:
		a.to.uses = a.Tube // of a list-tube-used it is the same one
	case api.RepWatching:
		if cmd.Kind == api.CmdWatch {
			j.watch(a.to, cmd.Tube)
		} else {
			j.ignore(a.to, cmd.Tube)
		}
	case api.RepPaused:
		j.mark(cmd.Tube)
	}
}

// meet lets a job be known by the first answer that speaks of it.
func (j *judge) meet(a answer) *job {
	b := &job{id: a.id}
	j.jobs[a.id] = b
	if a.Kind != api.RepInserted {
		j.strange++
		return b
	}
	put := a.task.cmd
	b.see(put.Body)
	b.tube, b.ranked, b.pri, b.ttr = a.to.uses, true, put.Pri, put.TTR
	j.setFresh(b, put.Delay == 0)
	return b
}

// see lets a job's body be known: so it is there.
func (b *job) see(body []byte) {
	b.read, b.body, b.doubtful = true, body, false
}

// rest lets a job have no holder and another priority, and be ready no more.
func (j *judge) rest(b *job, pri int) {
	b.letGo()
	j.setFresh(b, false)
	b.ranked, b.pri = true, pri
}
