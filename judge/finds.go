package judge

import "stint/api"

// find is whether a rule is broken, and the id that is told with that.
type find struct {
	broken bool
	id     int
}

// finds are the rules that an event breaks, each at its place.
type finds [api.RuleLost + 1]find

// note writes down that a rule is broken. (Of an event one reply at most answers a task, so it is never written down with two ids.)
func (f *finds) note(rule, id int) { f[rule] = find{true, id} }

// faults are the same as faults of an event.
func (f *finds) faults(at int) []api.Fault {
	var list []api.Fault
	for rule, x := range f {
		if x.broken {
			list = append(list, api.Fault{At: at, Rule: rule, Id: x.id})
		}
	}
	return list
}
