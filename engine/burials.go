package engine

// burials has the buried jobs of all tubes by their ids, each with its neighbours in the order of their burying: a ring,
// which is closed by the id 0. So the greatest Order is known at once, whichever job goes from between the others.
type burials map[int]burial

type burial struct{ order, ahead, behind int }

// next is the Order of the job that is buried next.
func (b burials) next() int { return more(b[b[0].ahead].order) }

// add lays a job behind all others; none of them has a greater Order.
func (b burials) add(id, order int) {
	last := b[0].ahead
	b[id] = burial{order: order}
	b.join(last, id)
	b.join(id, 0)
}

// remove takes a job out, if it is there.
func (b burials) remove(id int) {
	x, there := b[id]
	if !there {
		return
	}
	b.join(x.ahead, x.behind)
	delete(b, id)
}

// join makes two neighbours.
func (b burials) join(front, back int) {
	x := b[front]
	x.behind = back
	b[front] = x
	y := b[back]
	y.ahead = front
	b[back] = y
}
