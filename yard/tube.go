package yard

import (
	"stint/api"
	"stint/heap"
)

// tube has jobs. Its reserved ones stand with their holders, and are counted here alone.
type tube struct {
	ready, delayed, buried *heap.Heap[mark]
	sums                   api.Sums
}

func newTube() *tube {
	return &tube{ready: heap.New(byPri.before), delayed: heap.New(byDue.before), buried: heap.New(byOrder.before)}
}

func (t *tube) clone() *tube {
	return &tube{ready: t.ready.Clone(), delayed: t.delayed.Clone(), buried: t.buried.Clone(), sums: t.sums}
}

// lay makes a job stand where it belongs.
func (y *Yard) lay(j api.Job) {
	if _, there := y.tubes[j.Tube]; !there {
		y.tubes[j.Tube] = newTube()
	}
	if _, there := y.held[j.Holder]; !there && j.State == api.Reserved {
		y.held[j.Holder] = heap.New(byDue.before)
	}
	e := entry{Job: j}
	for i, h := range y.heapsOf(j) {
		e.tickets[i] = h.Push(markOf(j))
	}
	y.jobs[j.Id] = e
	y.count(j, 1)
}

// take makes a job stand nowhere. A tube or a holder may be left without jobs: see sweep.
func (y *Yard) take(e entry) {
	for i, h := range y.heapsOf(e.Job) {
		h.Remove(e.tickets[i])
	}
	delete(y.jobs, e.Id)
	y.count(e.Job, -1)
}

// sweep forgets the tube and the holder of a job that was taken, if they have no other one.
func (y *Yard) sweep(e entry) {
	if y.tubes[e.Tube].sums == (api.Sums{}) {
		delete(y.tubes, e.Tube)
	}
	if h, there := y.held[e.Holder]; there && h.Len() == 0 {
		delete(y.held, e.Holder)
	}
}

// heapsOf are the heaps in which a job stands, in the order of its tickets.
func (y *Yard) heapsOf(j api.Job) []*heap.Heap[mark] {
	t := y.tubes[j.Tube]
	switch j.State {
	case api.Ready:
		return []*heap.Heap[mark]{t.ready}
	case api.Delayed:
		return []*heap.Heap[mark]{t.delayed, y.delayed}
	case api.Reserved:
		return []*heap.Heap[mark]{y.held[j.Holder], y.reserved}
	}
	return []*heap.Heap[mark]{t.buried}
}

func (y *Yard) count(j api.Job, by int) {
	countIn(&y.sums, j, by)
	countIn(&y.tubes[j.Tube].sums, j, by)
}

// over tells the ids of the jobs in one of the yard's own heaps that are due. They are pulled out and laid back, as a
// heap tells only its first one at once, and to go through all jobs at each tick would take long.
func (y *Yard) over(h *heap.Heap[mark], now int) []int {
	found := pull(h, func(m mark) bool { return m.due <= now })
	ids := make([]int, 0, len(found))
	for _, m := range found {
		e := y.jobs[m.id]
		e.tickets[1] = h.Push(m)
		y.jobs[m.id] = e
		ids = append(ids, m.id)
	}
	return ids
}
