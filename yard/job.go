package yard

import (
	"bytes"

	"stint/api"
)

// entry is a job, and by which tickets it is found in the heaps in which it stands (see heapsOf): first in one of its
// tube or its holder, then, if it is delayed or reserved, in one of the yard's own.
type entry struct {
	api.Job
	tickets [2]int
}

// mayBecome tells whether a job has what of j never changes.
func (e entry) mayBecome(j api.Job) bool {
	return e.Tube == j.Tube && bytes.Equal(e.Body, j.Body) && e.TTR == j.TTR && e.Born == j.Born
}

// told is the job with a body of its own, into which a caller may write.
func (e entry) told() api.Job {
	j := e.Job
	j.Body = bytes.Clone(j.Body)
	return j
}

func isState(n int) bool {
	return n == api.Ready || n == api.Delayed || n == api.Reserved || n == api.Buried
}

// fits tells whether a job's fields are such as its state asks for.
func fits(j api.Job) bool {
	reserved := j.State == api.Reserved
	return fitsHolder(j.Holder, reserved) &&
		fitsNumber(j.Due, reserved || j.State == api.Delayed) &&
		fitsNumber(j.Order, j.State == api.Buried) &&
		len(j.Tube) >= 1 && len(j.Tube) <= api.MaxName &&
		len(j.Body) <= api.MaxBody
}

func fitsHolder(conn int, asked bool) bool {
	if asked {
		return conn >= 0 && conn < api.MaxSeats
	}
	return conn == -1
}

func fitsNumber(n int, asked bool) bool {
	if asked {
		return n >= 1
	}
	return n == 0
}

// countIn adds a job to sums (by 1) or takes it off them (by -1).
func countIn(s *api.Sums, j api.Job, by int) {
	switch j.State {
	case api.Ready:
		s.Ready += by
		if j.Pri < api.Urgent {
			s.Urgent += by
		}
	case api.Delayed:
		s.Delayed += by
	case api.Reserved:
		s.Reserved += by
	case api.Buried:
		s.Buried += by
	}
}
