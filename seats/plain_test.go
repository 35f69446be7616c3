package seats

import (
	"slices"
	"strings"

	"stint/api"
)

// plain are seats in the plainest way: a list of connections as they are told, and one of who waits. They count nothing
// along, and know names by their letters alone (the plays have no other wrong ones).
type plain struct {
	list []api.Seat
	line []int
}

func (p *plain) clone() *plain {
	c := &plain{line: slices.Clone(p.line)}
	for _, x := range p.list {
		c.list = append(c.list, own(x))
	}
	return c
}

func (p *plain) place(n int) int {
	return slices.IndexFunc(p.list, func(x api.Seat) bool { return x.Num == n })
}

func right(tube string) bool { return strings.Trim(tube, "abcdefltu") == "" && tube != "" }

func (p *plain) open(n int) api.Errno {
	switch {
	case n < 0 || n > 63:
		return api.ErrSeatNum
	case p.place(n) >= 0:
		return api.ErrSeatOpen
	}
	p.list = append(p.list, api.Seat{Num: n, Used: "default", Watched: []string{"default"}})
	return api.OK
}

func (p *plain) leave(n int) {
	p.line = slices.DeleteFunc(p.line, func(m int) bool { return m == n })
}

func (p *plain) close(n int) api.Errno {
	i := p.place(n)
	if i < 0 {
		return api.ErrSeatNone
	}
	p.list = slices.Delete(p.list, i, i+1)
	p.leave(n)
	return api.OK
}

// wrong is what is wrong with a number and a tube.
func (p *plain) wrong(n int, tube string) api.Errno {
	switch {
	case p.place(n) < 0:
		return api.ErrSeatNone
	case !right(tube):
		return api.ErrName
	}
	return api.OK
}

func (p *plain) use(n int, tube string) api.Errno {
	if err := p.wrong(n, tube); err != api.OK {
		return err
	}
	p.list[p.place(n)].Used = tube
	return api.OK
}

func (p *plain) watch(n int, tube string) counted {
	if err := p.wrong(n, tube); err != api.OK {
		return counted{err: err}
	}
	x := &p.list[p.place(n)]
	x.Watched = append(x.Watched, tube)
	slices.Sort(x.Watched)
	x.Watched = slices.Compact(x.Watched)
	return counted{len(x.Watched), api.OK}
}

func (p *plain) ignore(n int, tube string) counted {
	if err := p.wrong(n, tube); err != api.OK {
		return counted{err: err}
	}
	x := &p.list[p.place(n)]
	if slices.Equal(x.Watched, []string{tube}) {
		return counted{err: api.ErrSeatLast}
	}
	x.Watched = slices.DeleteFunc(x.Watched, func(other string) bool { return other == tube })
	return counted{len(x.Watched), api.OK}
}

func (p *plain) wait(n, until int) api.Errno {
	i := p.place(n)
	switch {
	case i < 0:
		return api.ErrSeatNone
	case until < -1:
		return api.ErrArg
	case p.list[i].Waits:
		return api.ErrSeatWait
	}
	p.list[i].Waits, p.list[i].Until = true, until
	p.line = append(p.line, n)
	return api.OK
}

func (p *plain) stop(n int) api.Errno {
	i := p.place(n)
	switch {
	case i < 0:
		return api.ErrSeatNone
	case !p.list[i].Waits:
		return api.ErrSeatWait
	}
	p.list[i].Waits, p.list[i].Until = false, 0
	p.leave(n)
	return api.OK
}

func (p *plain) mark(n int, puts, takes bool) api.Errno {
	i := p.place(n)
	if i < 0 {
		return api.ErrSeatNone
	}
	if puts {
		p.list[i].Puts = true
	}
	if takes {
		p.list[i].Takes = true
	}
	return api.OK
}

func (p *plain) nums() []int {
	var nums []int
	for _, x := range p.list {
		nums = append(nums, x.Num)
	}
	slices.Sort(nums)
	return nums
}

func (p *plain) first(tube string) int {
	for _, n := range p.line {
		if slices.Contains(p.list[p.place(n)].Watched, tube) {
			return n
		}
	}
	return -1
}

func (p *plain) sums(tube string) (using, watching, waiting int) {
	for _, x := range p.list {
		if x.Used == tube {
			using++
		}
		if slices.Contains(x.Watched, tube) {
			watching++
			if x.Waits {
				waiting++
			}
		}
	}
	return using, watching, waiting
}

func (p *plain) tubes() []string {
	var all []string
	for _, x := range p.list {
		all = append(append(all, x.Used), x.Watched...)
	}
	slices.Sort(all)
	return slices.Compact(all)
}
