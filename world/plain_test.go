package world

import (
	"fmt"
	"reflect"
	"slices"
	"testing"

	"stint/api"
	"stint/frame"
	"stint/house"
	"stint/record"
)

// entry is a record of R (P20.9), and where it stands.
type entry struct {
	record    api.Record
	file, end int // the place behind its frame's last byte
}

// plain is a world as the chapter has it. It has the landed house, but files of its own; and it writes down R, the records that the acts appended.
type plain struct {
	t     *testing.T
	c     api.Config
	now   int
	files []api.File
	h     *house.House
	log   []entry
	told  int // so many of them were there when something was said last

	lost, kept, moves, torn int // how often a record that was laid and not safe was lost, was kept; a job was moved; a start began with a cut
}

func plainNew(t *testing.T, c api.Config) *plain {
	t.Helper()
	h, acts, err := house.New(c, 0)
	if err != api.OK {
		t.Fatalf("house.New = %d", err)
	}
	p := &plain{t: t, c: c, h: h}
	for _, a := range acts {
		p.act(a)
	}
	return p
}

func (p *plain) clone() *plain {
	x := *p
	x.files, x.log = ownFiles(p.files), slices.Clone(p.log)
	if p.h != nil {
		x.h = p.h.Clone()
	}
	return &x
}

// outs are what the house answers to a step, ahead of which some events stand; or why it is refused.
func (p *plain) outs(s api.Step) (outs []api.Out, first []api.Event, code api.Errno) {
	down := p.h == nil
	if down && slices.Contains([]int{api.StOpen, api.StFeed, api.StHang, api.StDrain, api.StCrash}, s.Kind) {
		return nil, nil, api.ErrWorldDown
	}
	switch s.Kind {
	case api.StOpen:
		code = p.h.Join(s.Conn)
		first = []api.Event{{Kind: api.EvOpened, Conn: s.Conn}}
	case api.StFeed:
		outs, code = p.h.Feed(s.Conn, s.Data)
		first = []api.Event{{Kind: api.EvHeard, Conn: s.Conn, Data: s.Data}}
	case api.StHang:
		outs, code = p.h.Hang(s.Conn)
		first = []api.Event{{Kind: api.EvHung, Conn: s.Conn}}
	case api.StTick:
		if !down {
			outs = p.h.Tick()
		}
		if p.now < 1<<40 {
			p.now++
		}
		first = []api.Event{{Kind: api.EvTicked, Now: p.now}}
	case api.StDrain:
		p.h.Drain()
		first = []api.Event{{Kind: api.EvDrains}}
	case api.StCrash:
	case api.StStart:
		if !down {
			return nil, nil, api.ErrWorldUp
		}
		outs = p.reopened()
	default:
		code = api.ErrWorldStep
	}
	return outs, first, code
}

// reopened opens the files, and is the acts as outs.
func (p *plain) reopened() []api.Out {
	p.t.Helper()
	h, acts, err := house.Open(p.c, p.now, ownFiles(p.files))
	if err != api.OK {
		p.t.Fatalf("house.Open = %d", err)
	}
	p.h = h
	var outs []api.Out
	for _, a := range acts {
		if a.Kind == api.ActCut {
			p.torn++
		}
		outs = append(outs, api.Out{Kind: api.OutAct, Act: a})
	}
	return outs
}

// step does a step, by the chapter's words.
func (p *plain) step(s api.Step) []api.Event {
	p.t.Helper()
	down := p.h == nil
	outs, events, code := p.outs(s)
	if code != api.OK {
		return []api.Event{{Kind: api.EvRefused, Conn: s.Conn, Code: code}}
	}
	breaks := s.Break > 0 && slices.Contains([]int{api.StFeed, api.StHang, api.StTick, api.StStart}, s.Kind)
	if s.Kind == api.StTick && down {
		breaks = false
	}
	for i, x := range outs {
		if breaks && i+1 >= s.Break {
			break
		}
		events = append(events, p.carry(x)...)
	}
	if breaks || s.Kind == api.StCrash {
		p.crash(s.Keep)
		return append(events, api.Event{Kind: api.EvDown, Now: p.now})
	}
	if s.Kind == api.StStart {
		events = append(events, api.Event{Kind: api.EvUp, Now: p.now})
		p.wantJobs()
	}
	return events
}

func (p *plain) carry(x api.Out) []api.Event {
	p.t.Helper()
	switch x.Kind {
	case api.OutAct:
		p.act(x.Act)
		return nil
	case api.OutSay:
		p.told = len(p.log)
		return []api.Event{{Kind: api.EvSaid, Conn: x.Conn, Data: x.Data}}
	case api.OutHang:
		return []api.Event{{Kind: api.EvHung, Conn: x.Conn}}
	case api.OutDone:
		return []api.Event{{Kind: api.EvDone, Conn: x.Conn}}
	}
	p.t.Fatalf("an out that may not be: %s", show(x))
	return nil
}

func (p *plain) place(num int) int {
	return slices.IndexFunc(p.files, func(f api.File) bool { return f.Num == num })
}

// act does an act; P20.4: it can be done. P20.11: there are never more bytes than Quota.
func (p *plain) act(a api.Act) {
	p.t.Helper()
	k := p.place(a.File)
	if (k < 0) != (a.Kind == api.ActCreate) {
		p.t.Fatalf("an act on a file that is there, or is not: %s", show(a))
	}
	switch a.Kind {
	case api.ActCreate:
		p.files = append(p.files, api.File{Num: a.File})
		slices.SortFunc(p.files, func(x, y api.File) int { return x.Num - y.Num })
	case api.ActAppend:
		p.write(a.File, len(p.files[k].Data), a.Data)
		p.files[k].Data = append(p.files[k].Data, a.Data...)
	case api.ActSync:
		p.files[k].Safe = len(p.files[k].Data)
	case api.ActCut:
		if a.Size < 0 || a.Size > len(p.files[k].Data) {
			p.t.Fatalf("a cut that may not be: %s", show(a))
		}
		p.files[k].Data, p.files[k].Safe = own(p.files[k].Data[:a.Size]), a.Size
	case api.ActRemove:
		p.files = slices.Delete(p.files, k, k+1)
	}
	if used := p.used(); used > p.c.Quota {
		p.t.Fatalf("the files have %d bytes, of %d", used, p.c.Quota)
	}
}

func (p *plain) used() int {
	used := 0
	for _, f := range p.files {
		used += len(f.Data)
	}
	return used
}

// write writes down in R what is appended; the whole records of moves, which change nothing, are left out.
func (p *plain) write(num, place int, data []byte) {
	p.t.Helper()
	payload, size, err := frame.Take(num, place, data)
	r, wrong := record.Get(payload)
	if err != api.OK || wrong != api.OK || size != len(data) {
		p.t.Fatalf("what is appended is no record: %d, %d, %x", err, wrong, data)
	}
	if r.Kind == api.RecHead {
		return
	}
	if j, there := p.stored()[r.Job.Id]; there && r.Kind == api.RecWhole {
		if !reflect.DeepEqual(ownStored(j), ownStored(r.Job)) {
			p.t.Fatalf("a move writes %s; want %s", show(r.Job), show(j))
		}
		p.moves++
		return
	}
	p.log = append(p.log, entry{r, num, place + len(data)})
}

func ownStored(j api.Stored) api.Stored {
	j.Body = own(j.Body)
	return j
}

// stored are the jobs that R makes from none.
func (p *plain) stored() map[int]api.Stored {
	jobs := map[int]api.Stored{}
	for _, x := range p.log {
		switch j := x.record.Job; x.record.Kind {
		case api.RecWhole:
			jobs[j.Id] = j
		case api.RecGone:
			delete(jobs, x.record.Id)
		case api.RecShort:
			if old, there := jobs[j.Id]; there {
				j.TTR, j.Born, j.Tube, j.Body = old.TTR, old.Born, old.Tube, old.Body
				jobs[j.Id] = j
			}
		}
	}
	return jobs
}

// crash lets the power go, and is P20.9 of what it takes: a beginning of R stays, in which all is that was safe, or answered.
func (p *plain) crash(keep []int) {
	p.t.Helper()
	safe := p.standing(func(f api.File) int { return f.Safe })
	for k, f := range p.files {
		x := 0
		if k < len(keep) {
			x = keep[k]
		}
		if x < 0 {
			x = -(x + 1)
		}
		n := f.Safe + x%(len(f.Data)-f.Safe+1)
		p.files[k].Data, p.files[k].Safe = own(f.Data[:n]), n
	}
	stay := p.standing(func(f api.File) int { return len(f.Data) })
	if stay < safe || stay < p.told {
		p.t.Fatalf("%d records stay, of which %d were safe, and %d answered", stay, safe, p.told)
	}
	p.lost += len(p.log) - stay
	p.kept += stay - safe
	p.log, p.told, p.h = p.log[:stay:stay], 0, nil
}

// standing tells how many of R there are of which each byte is among the first ones of its file, so many as a function tells; they must be a beginning of R. (A file that was removed was not needed any more.)
func (p *plain) standing(first func(f api.File) int) int {
	p.t.Helper()
	stands := func(x entry) bool {
		k := p.place(x.file)
		return k < 0 || x.end <= first(p.files[k])
	}
	n := 0
	for n < len(p.log) && stands(p.log[n]) {
		n++
	}
	if slices.ContainsFunc(p.log[n:], stands) {
		p.t.Fatal("what stays of the records is no beginning of them")
	}
	return n
}

// wantJobs is P20.9 of a house that was opened.
func (p *plain) wantJobs() {
	p.t.Helper()
	var want []api.Job
	for _, s := range p.stored() {
		j := api.Job{Id: s.Id, Pri: s.Pri, Delay: s.Delay, TTR: s.TTR, Born: s.Born, State: api.Ready, Holder: -1, Counts: s.Counts, Tube: s.Tube, Body: own(s.Body)}
		if s.State == api.Buried {
			j.State, j.Order = api.Buried, s.Order
		}
		if s.State == api.Delayed && s.Due > p.now {
			j.State, j.Due = api.Delayed, s.Due
		}
		want = append(want, j)
	}
	slices.SortFunc(want, func(x, y api.Job) int { return x.Id - y.Id })
	if got := ownJobs(p.h.Jobs()); !reflect.DeepEqual(got, want) {
		p.t.Fatalf("behind a start the jobs are %s; want %s", show(got), show(want))
	}
}

// wantRest is what holds between steps: W3, that the live jobs are those that R makes, and P20.11.
func (p *plain) wantRest() {
	p.t.Helper()
	if p.h == nil {
		return
	}
	stored := p.stored()
	jobs := p.h.Jobs()
	for _, j := range jobs {
		s, there := stored[j.Id]
		if !there || s.Tube != j.Tube || string(s.Body) != string(j.Body) || s.TTR != j.TTR || s.Born != j.Born {
			p.t.Fatalf("a job is %s; the records make %s", show(j), show(s))
		}
	}
	if len(jobs) != len(stored) {
		p.t.Fatalf("there are %d jobs; the records make %d", len(jobs), len(stored))
	}
	for _, f := range p.files {
		if f.Safe != len(f.Data) {
			p.t.Fatalf("of file %d %d bytes are safe, of %d", f.Num, f.Safe, len(f.Data))
		}
	}
}

func (p *plain) tells() tells {
	told := tells{up: p.h != nil, now: p.now, files: ownFiles(p.files)}
	if p.h == nil {
		return told
	}
	told.jobs, told.shop = ownJobs(p.h.Jobs()), p.h.Shop()
	told.conns = append(told.conns, p.h.Conns()...)
	told.tubes = append(told.tubes, p.h.Tubes()...)
	return told
}

// pair is a world and a plain one, to which the same comes.
type pair struct {
	t *testing.T
	w *World
	p *plain
}

func newPair(t *testing.T, c api.Config) *pair {
	t.Helper()
	w, err := New(c)
	if err != api.OK {
		t.Fatalf("New = %d", err)
	}
	x := &pair{t, w, plainNew(t, c)}
	wantTells(t, "New", w, x.p.tells())
	return x
}

func (x *pair) clone() *pair { return &pair{x.t, x.w.Clone(), x.p.clone()} }

// step does a step in both, which must tell the same.
func (x *pair) step(s api.Step) []api.Event {
	x.t.Helper()
	got, want := x.w.Step(s), x.p.step(s)
	if !sameEvents(got, want) {
		x.t.Fatalf("%s: %s; want %s", show(s), show(words(x.t, got)), show(words(x.t, want)))
	}
	words(x.t, got)
	wantTells(x.t, fmt.Sprint(show(s), " ", show(words(x.t, got))), x.w, x.p.tells())
	x.p.wantRest()
	return got
}
