package engine

import "stint/api"

// tube is what of a tube neither its jobs nor the connections tell.
type tube struct {
	total, deletes, pauses int
	pause, until           int // 0, if it is not paused
}

// paused tells whether the ready jobs of a tube are kept back.
func (e *Engine) paused(name string) bool { return e.tubes[name].until > e.now }

// isThere tells whether there is such a tube.
func (e *Engine) isThere(name string) bool {
	return name == api.Default ||
		e.seats.Using(name) > 0 ||
		e.seats.Watching(name) > 0 ||
		e.yard.Sums(name) != api.Sums{}
}

// forget lets go what was counted of a tube, and its pause, if somebody or something that left it was the last there.
func (e *Engine) forget(name string) {
	if !e.isThere(name) {
		delete(e.tubes, name)
	}
}
