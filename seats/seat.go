package seats

import (
	"stint/api"
	"stint/names"
)

// seat is a connection.
type seat struct {
	used        string
	watched     *names.Book // each of its tubes is held once
	ticket      int         // its place in the line of those that wait; 0: it does not wait
	until       int         // 0, if it does not wait
	puts, takes bool
}

// newSeat is a connection that has just come.
func newSeat() *seat {
	x := &seat{used: api.Default, watched: names.New()}
	x.watched.Hold(api.Default)
	return x
}

func (x *seat) waits() bool { return x.ticket != 0 }

func (x *seat) watches(tube string) bool { return x.watched.Count(tube) > 0 }

// told is what is told of it, by its number.
func (x *seat) told(n int) api.Seat {
	return api.Seat{
		Num:     n,
		Used:    x.used,
		Watched: x.watched.Names(),
		Waits:   x.waits(),
		Until:   x.until,
		Puts:    x.puts,
		Takes:   x.takes,
	}
}

func (x *seat) clone() *seat {
	c := *x
	c.watched = x.watched.Clone()
	return &c
}
