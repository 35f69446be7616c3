package ledger

import (
	"bytes"
	"cmp"
	"slices"

	"stint/api"
	"stint/frame"
	"stint/record"
	"stint/segment"
)

// plainFile is a file with its bytes.
type plainFile struct {
	num  int
	data []byte
}

// plainJob is a stored job and the file of its last whole record.
type plainJob struct {
	stored api.Stored
	at     int
}

// plain is a ledger that has the files' bytes themselves, and counts everything anew each time, as the chapter says it.
type plain struct {
	c              api.Config
	jobs           []plainJob // by rising ids
	next           int
	files          []plainFile // by rising numbers
	moved, written int
	acts           []api.Act
}

func (p *plain) clone() *plain {
	c := *p
	c.jobs = slices.Clone(p.jobs)
	c.files = nil
	for _, f := range p.files {
		c.files = append(c.files, plainFile{f.num, bytes.Clone(f.data)})
	}
	return &c
}

func (p *plain) newest() *plainFile { return &p.files[len(p.files)-1] }

func (p *plain) used() int {
	sum := 0
	for _, f := range p.files {
		sum += len(f.data)
	}
	return sum
}

func (p *plain) held() int {
	sum := 0
	for _, j := range p.jobs {
		sum += 42
		if j.stored.State != api.Buried {
			sum += 122
		}
	}
	return sum
}

func (p *plain) room() int { return p.c.Quota - 25 - p.used() - p.held() }

func (p *plain) wholes() int {
	sum := 0
	for _, j := range p.jobs {
		sum += plainSize(j.stored)
	}
	return sum
}

// plainSize is the size of a whole record.
func plainSize(j api.Stored) int { return 114 + len(j.Tube) + len(j.Body) }

func (p *plain) full() bool {
	return len(p.newest().data) >= p.c.Segment && p.newest().num != 1<<40
}

func (p *plain) extra() int {
	if p.full() {
		return 25
	}
	return 0
}

func (p *plain) find(id int) int {
	return slices.IndexFunc(p.jobs, func(j plainJob) bool { return j.stored.Id == id })
}

func (p *plain) create(num int) {
	p.acts = append(p.acts, api.Act{Kind: api.ActCreate, File: num})
	p.files = append(p.files, plainFile{num: num})
	p.head()
}

func (p *plain) head() {
	p.lay(api.Record{Kind: api.RecHead, File: p.newest().num, Next: p.next})
}

func (p *plain) lay(r api.Record) {
	f := p.newest()
	payload, err := record.Put(r)
	if err != api.OK {
		panic(err)
	}
	data, err := frame.Make(f.num, len(f.data), payload)
	if err != api.OK {
		panic(err)
	}
	p.acts = append(p.acts, api.Act{Kind: api.ActAppend, File: f.num, Data: data})
	f.data = append(f.data, data...)
}

func (p *plain) sync() {
	p.acts = append(p.acts, api.Act{Kind: api.ActSync, File: p.newest().num})
}

func (p *plain) cut(size int) {
	f := p.newest()
	f.data = f.data[:size]
	p.acts = append(p.acts, api.Act{Kind: api.ActCut, File: f.num, Size: size})
}

func (p *plain) write(r api.Record) {
	if p.full() {
		p.create(p.newest().num + 1)
	}
	p.lay(r)
	p.sync()
	p.written++
}

func (p *plain) letGo() {
	for len(p.files) > 1 {
		num := p.files[0].num
		if slices.ContainsFunc(p.jobs, func(j plainJob) bool { return j.at == num }) {
			return
		}
		p.acts = append(p.acts, api.Act{Kind: api.ActRemove, File: num})
		p.files = p.files[1:]
	}
}

func (p *plain) fresh() {
	if len(p.jobs) == 0 && len(p.newest().data) > 25 && p.newest().num != 1<<40 {
		p.create(p.newest().num + 1)
		p.sync()
		p.letGo()
	}
}

func (p *plain) move() {
	if len(p.files) < 2 || p.used() <= 2*p.wholes() {
		return
	}
	i := slices.IndexFunc(p.jobs, func(j plainJob) bool { return j.at == p.files[0].num })
	if i < 0 || plainSize(p.jobs[i].stored)+p.extra() > p.room() {
		return
	}
	p.write(api.Record{Kind: api.RecWhole, Job: p.jobs[i].stored})
	p.jobs[i].at = p.newest().num
	p.moved++
	p.letGo()
}

func (p *plain) behind() []api.Act {
	p.letGo()
	p.move()
	p.fresh()
	return p.taken()
}

func (p *plain) taken() []api.Act {
	acts := p.acts
	p.acts = nil
	return acts
}

func plainNew(c api.Config) (*plain, []api.Act, api.Errno) {
	if err := record.CheckConfig(c); err != api.OK {
		return nil, nil, api.ErrConfig
	}
	p := &plain{c: c, next: 1}
	p.create(1)
	p.sync()
	return p, p.taken(), api.OK
}

func plainOpen(c api.Config, files []api.File) (*plain, []api.Act, api.Errno) {
	if err := record.CheckConfig(c); err != api.OK {
		return nil, nil, api.ErrConfig
	}
	for i, f := range files {
		if f.Num < 1 || f.Num > 1<<40 {
			return nil, nil, api.ErrArg
		}
		for _, other := range files[:i] {
			if f.Num == other.Num {
				return nil, nil, api.ErrArg
			}
		}
	}
	if len(files) == 0 {
		return plainNew(c)
	}
	log := segment.Read(files)
	p := &plain{c: c, next: log.Next()}
	for _, j := range log.Jobs() {
		p.jobs = append(p.jobs, plainJob{j, log.At(j.Id)})
	}
	for _, f := range files {
		p.files = append(p.files, plainFile{f.Num, bytes.Clone(f.Data)})
	}
	slices.SortFunc(p.files, func(x, y plainFile) int { return cmp.Compare(x.num, y.num) })
	f := p.newest()
	size, is := segment.Whole(api.File{Num: f.num, Data: f.data})
	if !is {
		p.cut(0)
		p.head()
		p.sync()
	} else if size < len(f.data) {
		p.cut(size)
	}
	p.letGo()
	p.fresh()
	return p, p.taken(), api.OK
}

func (p *plain) put(j api.Stored) (int, []api.Act, api.Errno) {
	j.Id = 1
	if record.Check(api.Record{Kind: api.RecWhole, Job: j}) != api.OK || j.State == api.Buried {
		return 0, nil, api.ErrLedgerJob
	}
	if p.next > 1<<40 {
		return 0, nil, api.ErrLedgerId
	}
	if plainSize(j)+p.extra()+164 > p.room() {
		return 0, nil, api.ErrLedgerRoom
	}
	j.Id = p.next
	p.write(api.Record{Kind: api.RecWhole, Job: j})
	p.next++
	p.jobs = append(p.jobs, plainJob{plainBody(j), p.newest().num})
	return j.Id, p.behind(), api.OK
}

// refuses is why j may not stand in the place of what is stored, room let by.
func (p *plain) refuses(j api.Stored, buried bool) api.Errno {
	i := p.find(j.Id)
	if i < 0 {
		return api.ErrLedgerId
	}
	old := p.jobs[i].stored
	switch {
	case record.Check(api.Record{Kind: api.RecWhole, Job: j}) != api.OK,
		(j.State == api.Buried) != buried,
		j.TTR != old.TTR, j.Born != old.Born, j.Tube != old.Tube, string(j.Body) != string(old.Body):
		return api.ErrLedgerJob
	}
	return api.OK
}

func (p *plain) store(j api.Stored) []api.Act {
	p.jobs[p.find(j.Id)].stored = plainBody(j)
	short := j
	short.TTR, short.Born, short.Tube, short.Body = 0, 0, "", nil
	p.write(api.Record{Kind: api.RecShort, Job: short})
	return p.behind()
}

func (p *plain) change(j api.Stored) ([]api.Act, api.Errno) {
	if err := p.refuses(j, false); err != api.OK {
		return nil, err
	}
	need := 97 + p.extra()
	if p.jobs[p.find(j.Id)].stored.State == api.Buried {
		need += 122
	}
	if need > p.room() {
		return nil, api.ErrLedgerRoom
	}
	return p.store(j), api.OK
}

func (p *plain) bury(j api.Stored) ([]api.Act, api.Errno) {
	if err := p.refuses(j, true); err != api.OK {
		return nil, err
	}
	if p.jobs[p.find(j.Id)].stored.State == api.Buried && 97+p.extra() > p.room() {
		return nil, api.ErrLedgerRoom
	}
	return p.store(j), api.OK
}

func (p *plain) gone(id int) ([]api.Act, api.Errno) {
	i := p.find(id)
	if i < 0 {
		return nil, api.ErrLedgerId
	}
	p.jobs = slices.Delete(p.jobs, i, i+1)
	p.write(api.Record{Kind: api.RecGone, Id: id})
	return p.behind(), api.OK
}

// tells is all that a plain ledger tells.
func (p *plain) tells() tells {
	s := tells{
		next: p.next, used: p.used(), held: p.held(), room: p.room(),
		oldest: p.files[0].num, newest: p.newest().num, moved: p.moved, written: p.written,
	}
	for _, j := range p.jobs {
		s.jobs = append(s.jobs, plainBody(j.stored))
		s.at = append(s.at, j.at)
	}
	return s
}
