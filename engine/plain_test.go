package engine

import (
	"cmp"
	"maps"
	"slices"

	"stint/api"
	"stint/figures"
	"stint/ledger"
	"stint/record"
	"stint/verbs"
	"stint/yaml"
)

// plainSeat is a connection as the chapter has it.
type plainSeat struct {
	num         int
	used        string
	watched     []string
	puts, takes bool
}

// plainTube is what is counted of a tube.
type plainTube struct{ total, deletes, pauses, pause, until int }

// plainWait: who waits, and until when (-1: for good).
type plainWait struct{ num, until int }

// plain is an engine that has nothing but lists (and a ledger), and looks at all of them each time, as the chapter says it.
type plain struct {
	c                       api.Config
	start, now              int
	l                       *ledger.Ledger
	jobs                    []api.Job   // by rising ids
	seats                   []plainSeat // by rising numbers
	waits                   []plainWait // who began first is first
	tubes                   map[string]plainTube
	draining                bool
	done                    [26]int
	timeouts, total, opened int
	outs                    []api.Out
}

func plainNew(c api.Config, now int) (*plain, []api.Act, api.Errno) {
	return plainOpen(c, now, nil)
}

func plainOpen(c api.Config, now int, files []api.File) (*plain, []api.Act, api.Errno) {
	if record.CheckConfig(c) != api.OK {
		return nil, nil, api.ErrConfig
	}
	if now < 0 || now > 1<<40 {
		return nil, nil, api.ErrEngineNow
	}
	l, acts, err := ledger.Open(c, files)
	if err != api.OK {
		return nil, nil, err
	}
	p := &plain{c: c, start: now, now: now, l: l, tubes: map[string]plainTube{}}
	for _, s := range l.Jobs() {
		j := api.Job{Id: s.Id, Pri: s.Pri, Delay: s.Delay, TTR: s.TTR, Born: s.Born, State: api.Ready, Holder: -1, Counts: s.Counts, Tube: s.Tube, Body: s.Body}
		if s.State == api.Buried {
			j.State, j.Order = api.Buried, s.Order
		}
		if s.State == api.Delayed && s.Due > now {
			j.State, j.Due = api.Delayed, s.Due
		}
		p.jobs = append(p.jobs, j)
		x := p.tubes[j.Tube]
		x.total++
		p.tubes[j.Tube] = x
		p.total++
	}
	return p, acts, api.OK
}

func (p *plain) clone() *plain {
	c := *p
	c.l = p.l.Clone()
	c.jobs = slices.Clone(p.jobs)
	c.seats = slices.Clone(p.seats)
	for i := range c.seats {
		c.seats[i].watched = slices.Clone(c.seats[i].watched)
	}
	c.waits = slices.Clone(p.waits)
	c.tubes = maps.Clone(p.tubes)
	return &c
}

// seat is a connection that is there, or nil.
func (p *plain) seat(conn int) *plainSeat {
	for i := range p.seats {
		if p.seats[i].num == conn {
			return &p.seats[i]
		}
	}
	return nil
}

// job is a job that is there, or nil.
func (p *plain) job(id int) *api.Job {
	for i := range p.jobs {
		if p.jobs[i].Id == id {
			return &p.jobs[i]
		}
	}
	return nil
}

func (p *plain) waiting(conn int) bool {
	return slices.ContainsFunc(p.waits, func(w plainWait) bool { return w.num == conn })
}

func (p *plain) stop(conn int) {
	p.waits = slices.DeleteFunc(p.waits, func(w plainWait) bool { return w.num == conn })
}

func (p *plain) say(conn int, r api.Reply) {
	r.Body = slices.Clone(r.Body)
	p.outs = append(p.outs, api.Out{Kind: api.OutSay, Conn: conn, Reply: r})
}

func (p *plain) write(acts []api.Act) {
	for _, a := range acts {
		p.outs = append(p.outs, api.Out{Kind: api.OutAct, Act: a})
	}
}

// tubeThere is the word 'is there'.
func (p *plain) tubeThere(name string) bool {
	if name == "default" {
		return true
	}
	for _, s := range p.seats {
		if s.used == name || slices.Contains(s.watched, name) {
			return true
		}
	}
	return slices.ContainsFunc(p.jobs, func(j api.Job) bool { return j.Tube == name })
}

func (p *plain) names() []string {
	list := []string{"default"}
	for _, s := range p.seats {
		list = append(list, s.used)
		list = append(list, s.watched...)
	}
	for _, j := range p.jobs {
		list = append(list, j.Tube)
	}
	slices.Sort(list)
	return slices.Compact(list)
}

// taken is what comes of a call, behind which what is no longer there is forgotten.
func (p *plain) taken() []api.Out {
	for name := range p.tubes {
		if !p.tubeThere(name) {
			delete(p.tubes, name)
		}
	}
	outs := p.outs
	p.outs = nil
	return outs
}

func (p *plain) paused(name string) bool { return p.tubes[name].until > p.now }

// first is the first job that has a property, by a number and its id; nil: there is none.
func (p *plain) first(has func(j api.Job) bool, by func(j api.Job) int) *api.Job {
	var best *api.Job
	for i, j := range p.jobs {
		if has(j) && (best == nil || by(j) < by(*best)) {
			best = &p.jobs[i]
		}
	}
	return best
}

func priOf(j api.Job) int   { return j.Pri }
func dueOf(j api.Job) int   { return j.Due }
func orderOf(j api.Job) int { return j.Order }

func (p *plain) inTube(name string, state int, by func(j api.Job) int) *api.Job {
	return p.first(func(j api.Job) bool { return j.Tube == name && j.State == state }, by)
}

func plainMore(n int) int {
	if n == 1<<62-1 {
		return n
	}
	return n + 1
}

func (p *plain) nextOrder() int {
	greatest := 0
	for _, j := range p.jobs {
		if j.State == api.Buried {
			greatest = max(greatest, j.Order)
		}
	}
	return plainMore(greatest)
}

func (p *plain) reserve(j *api.Job, conn int) {
	j.State, j.Holder, j.Due, j.Order = api.Reserved, conn, p.now+j.TTR, 0
	j.Counts.Reserves = plainMore(j.Counts.Reserves)
	p.say(conn, api.Reply{Kind: api.RepReserved, Id: j.Id, Body: j.Body})
}

// match is the section's 'To match', word by word.
func (p *plain) match() {
	for {
		best := p.first(func(j api.Job) bool {
			return j.State == api.Ready && !p.paused(j.Tube) && p.firstWaiter(j.Tube) >= 0
		}, priOf)
		if best == nil {
			return
		}
		conn := p.firstWaiter(best.Tube)
		p.stop(conn)
		p.reserve(best, conn)
	}
}

func (p *plain) firstWaiter(name string) int {
	for _, w := range p.waits {
		if slices.Contains(p.seat(w.num).watched, name) {
			return w.num
		}
	}
	return -1
}

func (p *plain) soon(conn int) bool {
	return slices.ContainsFunc(p.jobs, func(j api.Job) bool {
		return j.State == api.Reserved && j.Holder == conn && j.Due <= p.now+1
	})
}

func (p *plain) join(conn int) api.Errno {
	if conn < 0 || conn > 63 || p.seat(conn) != nil {
		return api.ErrEngineSeat
	}
	p.seats = append(p.seats, plainSeat{num: conn, used: "default", watched: []string{"default"}})
	slices.SortFunc(p.seats, func(x, y plainSeat) int { return cmp.Compare(x.num, y.num) })
	p.opened++
	return api.OK
}

func (p *plain) leave(conn int) ([]api.Out, api.Errno) {
	if p.seat(conn) == nil {
		return nil, api.ErrEngineSeat
	}
	for i := range p.jobs {
		if p.jobs[i].State == api.Reserved && p.jobs[i].Holder == conn {
			free(&p.jobs[i])
		}
	}
	p.stop(conn)
	p.seats = slices.DeleteFunc(p.seats, func(s plainSeat) bool { return s.num == conn })
	p.match()
	return p.taken(), api.OK
}

func free(j *api.Job) { j.State, j.Holder, j.Due, j.Order = api.Ready, -1, 0, 0 }

func (p *plain) tick() []api.Out {
	if p.now == 1<<40 {
		return nil
	}
	p.now++
	for i := range p.jobs {
		if j := &p.jobs[i]; j.State == api.Delayed && j.Due <= p.now {
			free(j)
		}
	}
	for i := range p.jobs {
		if j := &p.jobs[i]; j.State == api.Reserved && j.Due <= p.now {
			free(j)
			j.Counts.Timeouts = plainMore(j.Counts.Timeouts)
			p.timeouts++
		}
	}
	for name, x := range p.tubes {
		if x.until <= p.now {
			x.pause, x.until = 0, 0
			p.tubes[name] = x
		}
	}
	p.match()
	for _, w := range slices.Clone(p.waits) {
		if p.soon(w.num) {
			p.stop(w.num)
			p.say(w.num, api.Reply{Kind: api.RepSoon})
		} else if w.until != -1 && w.until <= p.now {
			p.stop(w.num)
			p.say(w.num, api.Reply{Kind: api.RepTimedOut})
		}
	}
	return p.taken()
}

func (p *plain) do(conn int, c api.Cmd) ([]api.Out, api.Errno) {
	s := p.seat(conn)
	if s == nil {
		return nil, api.ErrEngineSeat
	}
	if p.waiting(conn) {
		return nil, api.ErrEngineWait
	}
	if verbs.Check(c) != api.OK || c.Kind == api.CmdQuit || c.Kind == api.CmdPut && len(c.Body) > p.c.JobMax {
		return nil, api.ErrEngineCmd
	}
	p.done[c.Kind]++
	switch c.Kind {
	case api.CmdPut:
		p.put(s, c)
	case api.CmdReserve, api.CmdReserveWithin, api.CmdReserveJob:
		s.takes = true
		if c.Kind == api.CmdReserveJob {
			p.reserveJob(s, c)
		} else {
			p.take(s, c)
		}
	case api.CmdDelete, api.CmdRelease, api.CmdBury, api.CmdTouch:
		p.atJob(s, c)
	case api.CmdKick, api.CmdKickJob:
		p.kicks(s, c)
	default:
		p.other(s, c)
	}
	return p.taken(), api.OK
}

func (p *plain) put(s *plainSeat, c api.Cmd) {
	s.puts = true
	if p.draining {
		p.say(s.num, api.Reply{Kind: api.RepDraining})
		return
	}
	stored := api.Stored{Pri: c.Pri, Delay: c.Delay, TTR: c.TTR, Born: p.now, State: api.Ready, Tube: s.used, Body: c.Body}
	if c.Delay != 0 {
		stored.State, stored.Due = api.Delayed, p.now+c.Delay
	}
	id, acts, err := p.l.Put(stored)
	if err != api.OK {
		p.say(s.num, api.Reply{Kind: api.RepNoMemory})
		return
	}
	p.write(acts)
	p.jobs = append(p.jobs, api.Job{Id: id, Pri: c.Pri, Delay: c.Delay, TTR: c.TTR, Born: p.now, State: stored.State, Due: stored.Due, Holder: -1, Tube: s.used, Body: slices.Clone(c.Body)})
	x := p.tubes[s.used]
	x.total++
	p.tubes[s.used] = x
	p.total++
	p.say(s.num, api.Reply{Kind: api.RepInserted, Id: id})
	p.match()
}

func (p *plain) take(s *plainSeat, c api.Cmd) {
	best := p.first(func(j api.Job) bool {
		return j.State == api.Ready && slices.Contains(s.watched, j.Tube) && !p.paused(j.Tube)
	}, priOf)
	switch {
	case best != nil:
		p.reserve(best, s.num)
	case p.soon(s.num):
		p.say(s.num, api.Reply{Kind: api.RepSoon})
	case c.Kind == api.CmdReserve:
		p.waits = append(p.waits, plainWait{s.num, -1})
	case c.Number == 0:
		p.say(s.num, api.Reply{Kind: api.RepTimedOut})
	default:
		p.waits = append(p.waits, plainWait{s.num, p.now + c.Number})
	}
}

// plainStored is a job as it is stored.
func plainStored(j api.Job) api.Stored {
	return api.Stored{Id: j.Id, Pri: j.Pri, Delay: j.Delay, TTR: j.TTR, Born: j.Born, State: j.State, Due: j.Due, Order: j.Order, Counts: j.Counts, Tube: j.Tube, Body: j.Body}
}

// change stores a job in another way; false: there is no room.
func (p *plain) change(j api.Job) bool {
	acts, err := p.l.Change(plainStored(j))
	p.write(acts)
	return err == api.OK
}

func (p *plain) reserveJob(s *plainSeat, c api.Cmd) {
	j := p.job(c.Id)
	if j == nil || j.State == api.Reserved {
		p.say(s.num, api.Reply{Kind: api.RepNotFound})
		return
	}
	if j.State == api.Delayed || j.State == api.Buried {
		k := *j
		k.State, k.Due, k.Order = api.Ready, 0, 0
		k.Counts.Reserves = plainMore(k.Counts.Reserves)
		if !p.change(k) {
			p.say(s.num, api.Reply{Kind: api.RepNoMemory})
			return
		}
	}
	p.reserve(j, s.num)
}

// atJob is what is done to a job by its holder (or a delete by others).
func (p *plain) atJob(s *plainSeat, c api.Cmd) {
	j := p.job(c.Id)
	if j == nil || j.State == api.Reserved && j.Holder != s.num || j.State != api.Reserved && c.Kind != api.CmdDelete {
		p.say(s.num, api.Reply{Kind: api.RepNotFound})
		return
	}
	switch c.Kind {
	case api.CmdDelete:
		acts, err := p.l.Gone(j.Id)
		if err != api.OK {
			panic(err)
		}
		p.write(acts)
		x := p.tubes[j.Tube]
		x.deletes++
		p.tubes[j.Tube] = x
		p.jobs = slices.DeleteFunc(p.jobs, func(j api.Job) bool { return j.Id == c.Id })
		p.say(s.num, api.Reply{Kind: api.RepDeleted})
	case api.CmdRelease:
		k := *j
		free(&k)
		k.Pri, k.Delay = c.Pri, c.Delay
		k.Counts.Releases = plainMore(k.Counts.Releases)
		if c.Delay > 0 {
			k.State, k.Due = api.Delayed, p.now+c.Delay
		}
		if !p.change(k) {
			p.bury(s, j, c.Pri)
			return
		}
		*j = k
		p.say(s.num, api.Reply{Kind: api.RepReleased})
		p.match()
	case api.CmdBury:
		p.bury(s, j, c.Pri)
	case api.CmdTouch:
		j.Due = p.now + j.TTR
		p.say(s.num, api.Reply{Kind: api.RepTouched})
	}
}

func (p *plain) bury(s *plainSeat, j *api.Job, pri int) {
	order := p.nextOrder()
	j.State, j.Holder, j.Due, j.Order, j.Pri = api.Buried, -1, 0, order, pri
	j.Counts.Buries = plainMore(j.Counts.Buries)
	acts, err := p.l.Bury(plainStored(*j))
	if err != api.OK {
		panic(err)
	}
	p.write(acts)
	p.say(s.num, api.Reply{Kind: api.RepBuried})
}

func (p *plain) kick(j *api.Job) bool {
	k := *j
	free(&k)
	k.Counts.Kicks = plainMore(k.Counts.Kicks)
	if !p.change(k) {
		return false
	}
	*j = k
	return true
}

func (p *plain) kicks(s *plainSeat, c api.Cmd) {
	if c.Kind == api.CmdKickJob {
		j := p.job(c.Id)
		switch {
		case j == nil || j.State == api.Ready || j.State == api.Reserved:
			p.say(s.num, api.Reply{Kind: api.RepNotFound})
		case !p.kick(j):
			p.say(s.num, api.Reply{Kind: api.RepNoMemory})
		default:
			p.say(s.num, api.Reply{Kind: api.RepKickedJob})
			p.match()
		}
		return
	}
	state, by := api.Buried, orderOf
	if p.inTube(s.used, api.Buried, orderOf) == nil {
		state, by = api.Delayed, dueOf
	}
	count := 0
	for j := p.inTube(s.used, state, by); j != nil && count < c.Number && p.kick(j); j = p.inTube(s.used, state, by) {
		count++
	}
	p.say(s.num, api.Reply{Kind: api.RepKicked, Number: count})
	p.match()
}

// other are the commands that do nothing to jobs.
func (p *plain) other(s *plainSeat, c api.Cmd) {
	switch c.Kind {
	case api.CmdUse:
		s.used = c.Tube
		p.say(s.num, api.Reply{Kind: api.RepUsing, Tube: c.Tube})
	case api.CmdListUsed:
		p.say(s.num, api.Reply{Kind: api.RepUsing, Tube: s.used})
	case api.CmdWatch:
		if !slices.Contains(s.watched, c.Tube) {
			s.watched = append(s.watched, c.Tube)
			slices.Sort(s.watched)
		}
		p.say(s.num, api.Reply{Kind: api.RepWatching, Number: len(s.watched)})
	case api.CmdIgnore:
		if slices.Equal(s.watched, []string{c.Tube}) {
			p.say(s.num, api.Reply{Kind: api.RepNotIgnored})
			return
		}
		s.watched = slices.DeleteFunc(s.watched, func(name string) bool { return name == c.Tube })
		p.say(s.num, api.Reply{Kind: api.RepWatching, Number: len(s.watched)})
	case api.CmdPause:
		if !p.tubeThere(c.Tube) {
			p.say(s.num, api.Reply{Kind: api.RepNotFound})
			return
		}
		x := p.tubes[c.Tube]
		x.pauses++
		x.pause, x.until = c.Number, p.now+c.Number
		if c.Number == 0 {
			x.until = 0
		}
		p.tubes[c.Tube] = x
		p.say(s.num, api.Reply{Kind: api.RepPaused})
		p.match()
	case api.CmdPeek, api.CmdPeekReady, api.CmdPeekDelayed, api.CmdPeekBuried:
		p.peek(s, c)
	default:
		p.data(s, c)
	}
}

func (p *plain) peek(s *plainSeat, c api.Cmd) {
	j := p.job(c.Id)
	switch c.Kind {
	case api.CmdPeekReady:
		j = p.inTube(s.used, api.Ready, priOf)
	case api.CmdPeekDelayed:
		j = p.inTube(s.used, api.Delayed, dueOf)
	case api.CmdPeekBuried:
		j = p.inTube(s.used, api.Buried, orderOf)
	}
	if j == nil {
		p.say(s.num, api.Reply{Kind: api.RepNotFound})
		return
	}
	p.say(s.num, api.Reply{Kind: api.RepFound, Id: j.Id, Body: j.Body})
}

func (p *plain) data(s *plainSeat, c api.Cmd) {
	var text []byte
	switch c.Kind {
	case api.CmdStatsJob:
		if j := p.job(c.Id); j != nil {
			text = figures.Job(*j, p.l.File(c.Id), p.now)
		}
	case api.CmdStatsTube:
		for _, x := range p.toldTubes() {
			if x.Name == c.Tube {
				text = figures.Tube(x, p.now)
			}
		}
	case api.CmdStats:
		text = figures.Shop(p.shop())
	case api.CmdListTubes:
		text, _ = yaml.List(p.names())
	case api.CmdListWatched:
		text, _ = yaml.List(s.watched)
	}
	if len(text) == 0 {
		p.say(s.num, api.Reply{Kind: api.RepNotFound})
		return
	}
	p.say(s.num, api.Reply{Kind: api.RepData, Body: text})
}

func (p *plain) sums(has func(j api.Job) bool) api.Sums {
	var s api.Sums
	for _, j := range p.jobs {
		if !has(j) {
			continue
		}
		switch j.State {
		case api.Ready:
			s.Ready++
			if j.Pri < 1024 {
				s.Urgent++
			}
		case api.Delayed:
			s.Delayed++
		case api.Reserved:
			s.Reserved++
		case api.Buried:
			s.Buried++
		}
	}
	return s
}

func (p *plain) toldTubes() []api.Tube {
	var list []api.Tube
	for _, name := range p.names() {
		x := p.tubes[name]
		told := api.Tube{Name: name, Total: x.total, Deletes: x.deletes, Pauses: x.pauses, Pause: x.pause, Until: x.until}
		told.Sums = p.sums(func(j api.Job) bool { return j.Tube == name })
		for _, s := range p.seats {
			if s.used == name {
				told.Using++
			}
			if slices.Contains(s.watched, name) {
				told.Watching++
				if p.waiting(s.num) {
					told.Waiting++
				}
			}
		}
		list = append(list, told)
	}
	return list
}

func (p *plain) toldSeats() []api.Seat {
	var list []api.Seat
	for _, s := range p.seats {
		told := api.Seat{Num: s.num, Used: s.used, Watched: slices.Clone(s.watched), Puts: s.puts, Takes: s.takes}
		for _, w := range p.waits {
			if w.num == s.num {
				told.Waits, told.Until = true, w.until
			}
		}
		list = append(list, told)
	}
	return list
}

func (p *plain) shop() api.Shop {
	oldest, newest := p.l.Files()
	s := api.Shop{
		Now: p.now, Start: p.start, Sums: p.sums(func(j api.Job) bool { return true }), Done: p.done,
		Timeouts: p.timeouts, Total: p.total, Opened: p.opened, Tubes: len(p.names()), Seats: len(p.seats), Waiting: len(p.waits),
		JobMax: p.c.JobMax, Segment: p.c.Segment, Oldest: oldest, Newest: newest,
		Moved: p.l.Moved(), Written: p.l.Written(), Room: p.l.Room(), Draining: p.draining,
	}
	for _, x := range p.seats {
		if x.puts {
			s.Producers++
		}
		if x.takes {
			s.Workers++
		}
	}
	return s
}

// tells is all that a plain engine tells.
func (p *plain) tells() tells {
	told := tells{now: p.now, jobs: ownJobs(p.jobs), stored: ownStored(p.l.Jobs()), tubes: p.toldTubes(), seats: p.toldSeats(), shop: p.shop()}
	for _, w := range p.waits {
		told.waits = append(told.waits, w.num)
	}
	slices.Sort(told.waits)
	return told
}
