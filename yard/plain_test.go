package yard

import (
	"bytes"
	"cmp"
	"slices"
	"strings"

	"stint/api"
)

// plain is a yard that has nothing but a list of jobs, and looks at all of them each time, as the chapter says it.
type plain struct {
	jobs []api.Job // by rising ids
}

func (p *plain) clone() *plain { return &plain{slices.Clone(p.jobs)} }

func (p *plain) place(id int) (int, bool) {
	return slices.BinarySearchFunc(p.jobs, id, func(j api.Job, id int) int { return cmp.Compare(j.Id, id) })
}

// plainFits is the section 'A job that may be', word by word.
func plainFits(j api.Job) bool {
	if j.State == api.Reserved {
		if j.Holder < 0 || j.Holder > 63 {
			return false
		}
	} else if j.Holder != -1 {
		return false
	}
	if j.State == api.Delayed || j.State == api.Reserved {
		if j.Due < 1 {
			return false
		}
	} else if j.Due != 0 {
		return false
	}
	if j.State == api.Buried {
		if j.Order < 1 {
			return false
		}
	} else if j.Order != 0 {
		return false
	}
	return len(j.Tube) > 0 && len(j.Tube) < 201 && len(j.Body) < 65536
}

func (p *plain) add(j api.Job) api.Errno {
	at, there := p.place(j.Id)
	if j.Id <= 0 || j.Id > 1<<40 || there {
		return api.ErrYardId
	}
	if j.State < 1 || j.State > 4 {
		return api.ErrYardState
	}
	if !plainFits(j) {
		return api.ErrYardField
	}
	p.jobs = slices.Insert(p.jobs, at, ownBody(j))
	return api.OK
}

func (p *plain) set(j api.Job) api.Errno {
	at, there := p.place(j.Id)
	if !there {
		return api.ErrYardId
	}
	if j.State < 1 || j.State > 4 {
		return api.ErrYardState
	}
	old := p.jobs[at]
	if !plainFits(j) || old.Tube != j.Tube || !bytes.Equal(old.Body, j.Body) || old.TTR != j.TTR || old.Born != j.Born {
		return api.ErrYardField
	}
	p.jobs[at] = ownBody(j)
	return api.OK
}

func (p *plain) delete(id int) api.Errno {
	at, there := p.place(id)
	if !there {
		return api.ErrYardId
	}
	p.jobs = slices.Delete(p.jobs, at, at+1)
	return api.OK
}

// sorted are the jobs that have a property, by a number and by their ids.
func (p *plain) sorted(has func(j api.Job) bool, by func(j api.Job) int) []int {
	var list []api.Job
	for _, j := range p.jobs {
		if has(j) {
			list = append(list, j)
		}
	}
	slices.SortStableFunc(list, func(a, b api.Job) int { return cmp.Compare(by(a), by(b)) })
	var ids []int
	for _, j := range list {
		ids = append(ids, j.Id)
	}
	return ids
}

func priOf(j api.Job) int   { return j.Pri }
func dueOf(j api.Job) int   { return j.Due }
func orderOf(j api.Job) int { return j.Order }

// ofTube are a tube's jobs of a state.
func (p *plain) ofTube(tube string, state int, by func(j api.Job) int) []int {
	return p.sorted(func(j api.Job) bool { return j.Tube == tube && j.State == state }, by)
}

func (p *plain) over(state, now int) []int {
	return p.sorted(func(j api.Job) bool { return j.State == state && j.Due <= now }, dueOf)
}

func (p *plain) held(conn int) []int {
	return p.sorted(func(j api.Job) bool { return j.State == api.Reserved && j.Holder == conn }, dueOf)
}

// sums counts the jobs that have a property.
func (p *plain) sums(has func(j api.Job) bool) api.Sums {
	all := func(state int, also func(j api.Job) bool) int {
		return len(p.sorted(func(j api.Job) bool { return has(j) && j.State == state && also(j) }, priOf))
	}
	every := func(j api.Job) bool { return true }
	urgent := func(j api.Job) bool { return j.Pri < 1024 }
	return api.Sums{Ready: all(1, every), Delayed: all(2, every), Reserved: all(3, every), Buried: all(4, every), Urgent: all(1, urgent)}
}

func (p *plain) tubes() []string {
	var list []string
	for _, j := range p.jobs {
		list = append(list, j.Tube)
	}
	slices.SortFunc(list, strings.Compare)
	return slices.Compact(list)
}
