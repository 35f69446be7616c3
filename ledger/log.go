package ledger

import "stint/api"

// full tells whether the newest file takes no more records.
func (l *Ledger) full() bool {
	f := l.shelf.newest()
	return f.size >= l.config.Segment && f.num != api.MaxFile
}

// extra tells how many bytes the next record needs beside its own.
func (l *Ledger) extra() int {
	if l.full() {
		return headSize
	}
	return 0
}

// begin lays a file with its head behind all others.
func (l *Ledger) begin(num int) {
	l.shelf.create(num)
	l.head()
}

// head writes the newest file's head.
func (l *Ledger) head() {
	l.shelf.lay(api.Record{Kind: api.RecHead, File: l.shelf.newest().num, Next: l.next})
}

func (l *Ledger) write(r api.Record) {
	if l.full() {
		l.begin(l.shelf.newest().num + 1)
	}
	l.shelf.lay(r)
	l.shelf.sync()
	l.written++
}

// writeWhole writes a job whole, and stores it as one that stands where that was written to.
func (l *Ledger) writeWhole(j api.Stored) {
	l.write(wholeRecord(j))
	f := l.shelf.newest()
	f.note(j.Id)
	l.keep(job{Stored: j, file: f.num})
}

// keep stores a job in the place of what there was of its id.
func (l *Ledger) keep(j job) {
	l.forget(j.Id)
	l.jobs[j.Id] = j
	l.held += heldFor(j.Stored)
	l.wholes += wholeSize(j.Stored)
}

// forget stores the job of an id no more, if there is one.
func (l *Ledger) forget(id int) {
	if old, there := l.jobs[id]; there {
		l.held -= heldFor(old.Stored)
		l.wholes -= wholeSize(old.Stored)
		delete(l.jobs, id)
	}
}

// settle does what stands behind each change.
func (l *Ledger) settle() {
	l.letGo()
	l.move()
	l.refresh()
}

// letGo removes the oldest files that no job needs.
func (l *Ledger) letGo() {
	for len(l.shelf.files) > 1 {
		if _, needed := l.firstInOldest(); needed {
			return
		}
		l.shelf.remove()
	}
}

// firstInOldest is the job with the least id of those that need the oldest file; false: none does.
func (l *Ledger) firstInOldest() (job, bool) {
	f := l.shelf.oldest()
	for len(f.ids) > 0 {
		j, there := l.jobs[f.ids[0]]
		if there && j.file == f.num {
			return j, true
		}
		f.ids = f.ids[1:] // it never comes back: ids are given once, and records go to the newest file
	}
	return job{}, false
}

// move writes a job of the oldest file anew, if much of the files is of no use.
func (l *Ledger) move() {
	if len(l.shelf.files) == 1 || l.Used() <= 2*l.wholes {
		return
	}
	m, there := l.firstInOldest()
	if !there || wholeSize(m.Stored)+l.extra() > l.Room() {
		return
	}
	l.writeWhole(m.Stored)
	l.moved++
	l.letGo()
}

// refresh begins a file without records, if no job is left and the newest has some.
func (l *Ledger) refresh() {
	f := l.shelf.newest()
	if len(l.jobs) > 0 || f.size <= headSize || f.num == api.MaxFile {
		return
	}
	l.begin(f.num + 1)
	l.shelf.sync()
	l.letGo()
}
