package judge

import (
	"cmp"
	"slices"

	"stint/api"
)

// job is one that is known, and what is known of it.
type job struct {
	id       int
	read     bool // its body is known
	body     []byte
	tube     string // empty: it is not known
	ranked   bool   // its priority is known
	pri      int
	ttr      int   // 0: it is not known
	holder   *link // nil: it has none
	until    int
	fresh    bool // it surely is ready
	gone     bool
	doubtful bool // it may be gone
}

// rank is a job's, by which it is ahead of others or behind them.
type rank struct{ pri, id int }

func byRank(x, y rank) int { return cmp.Or(cmp.Compare(x.pri, y.pri), cmp.Compare(x.id, y.id)) }

func (b *job) rank() rank { return rank{b.pri, b.id} }

// tube is a name, and its fresh jobs, by rank.
type tube struct {
	name   string
	marked bool // it was paused once
	fresh  []rank
}

// offers tells whether one of its jobs is free for those that watch it.
func (t *tube) offers() bool { return !t.marked && len(t.fresh) > 0 }

// put and take: a rank joins the fresh ones, goes.
func (t *tube) put(r rank) {
	at, _ := slices.BinarySearchFunc(t.fresh, r, byRank)
	t.fresh = slices.Insert(t.fresh, at, r)
}

func (t *tube) take(r rank) {
	at, _ := slices.BinarySearchFunc(t.fresh, r, byRank)
	t.fresh = slices.Delete(t.fresh, at, at+1)
}

// tubeOf is the tube with a name.
func (j *judge) tubeOf(name string) *tube {
	t := j.tubes[name]
	if t == nil {
		t = &tube{name: name}
		j.tubes[name] = t
	}
	return t
}

// hasFresh tells whether a tube has a fresh job, marked or not.
func (j *judge) hasFresh(name string) bool {
	t := j.tubes[name]
	return t != nil && len(t.fresh) > 0
}

// watch and ignore: which tubes a connection watches.
func (j *judge) watch(x *link, name string) {
	t := j.tubeOf(name)
	if !x.watches(name) && t.offers() {
		x.offers++
	}
	x.watched[name] = t
}

func (j *judge) ignore(x *link, name string) {
	if x.watches(name) && x.watched[name].offers() {
		x.offers--
	}
	delete(x.watched, name)
}

// setFresh makes a job fresh or not. As long as it is, its tube and its priority are known and stay.
func (j *judge) setFresh(b *job, fresh bool) {
	if b.fresh == fresh {
		return
	}
	b.fresh = fresh
	t := j.tubeOf(b.tube)
	offered := t.offers()
	if fresh {
		t.put(b.rank())
	} else {
		t.take(b.rank())
	}
	j.count(t, offered)
}

// mark notes that a tube was paused.
func (j *judge) mark(name string) {
	t := j.tubeOf(name)
	offered := t.offers()
	t.marked = true
	j.count(t, offered)
}

// count lets all that watch a tube know if it begins to offer a job, or ceases to.
func (j *judge) count(t *tube, offered bool) {
	if t.offers() == offered {
		return
	}
	change := 1
	if offered {
		change = -1
	}
	for _, x := range j.links {
		if x != nil && x.watches(t.name) {
			x.offers += change
		}
	}
}

// hold makes a connection a job's holder.
func (j *judge) hold(b *job, x *link) {
	b.letGo()
	b.holder = x
	x.held[b.id] = b
	j.prolong(b)
}

// prolong lets a job's time begin anew; it is 1 at least, where it is not known.
func (j *judge) prolong(b *job) { b.until = j.now + max(b.ttr, 1) }

// letGo lets a job have no holder.
func (b *job) letGo() {
	if b.holder != nil {
		delete(b.holder.held, b.id)
		b.holder = nil
	}
}

// isHeld tells whether somebody surely holds a job.
func (j *judge) isHeld(b *job) bool { return b != nil && b.holder != nil && j.now < b.until }

func (j *judge) surelyHolds(x *link, b *job) bool { return j.isHeld(b) && b.holder == x }

func (j *judge) mayHold(x *link, b *job) bool {
	return j.surelyHolds(x, b) || b != nil && b.holder == x && b.ttr == 0
}

// isSoon tells whether a job that a connection may hold may run out of time soon.
func (j *judge) isSoon(x *link) bool {
	for _, b := range x.held {
		if j.mayHold(x, b) && (b.ttr == 0 || b.until <= j.now+api.Margin) {
			return true
		}
	}
	return false
}
