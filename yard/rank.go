package yard

import (
	"stint/api"
	"stint/heap"
)

// mark is what of a job a heap has to know.
type mark struct{ id, pri, due, order int }

func markOf(j api.Job) mark { return mark{j.Id, j.Pri, j.Due, j.Order} }

// rank is by what the jobs of a heap stand.
type rank int

const (
	byPri rank = iota
	byDue
	byOrder
)

// key is the number of a job that its rank asks for.
func (r rank) key(m mark) int {
	switch r {
	case byPri:
		return m.pri
	case byDue:
		return m.due
	}
	return m.order
}

// before tells whether a comes first: by the smaller key, of equals by the smaller id.
func (r rank) before(a, b mark) bool {
	x, y := r.key(a), r.key(b)
	if x != y {
		return x < y
	}
	return a.id < b.id
}

// firstOf is the id of a heap's first job; 0: there is none.
func firstOf(h *heap.Heap[mark]) int {
	_, m, _ := h.Top()
	return m.id
}

// pull takes out of a heap what is first, as long as it has a property, and tells what that was. The heap's order must
// have all that has the property ahead of all that has not.
func pull[T any](h *heap.Heap[T], has func(T) bool) []T {
	var found []T
	for _, x, there := h.Top(); there && has(x); _, x, there = h.Top() {
		h.Pop()
		found = append(found, x)
	}
	return found
}
