package engine

import "stint/api"

// command is what a command does. Each of them is of a type of its own.
type command interface {
	// do does it, and is what its connection is told; a reply without a kind: nothing.
	do(t *turn) api.Reply
}

// commandOf is what a command does that may be done.
func commandOf(c api.Cmd) command {
	switch c.Kind {
	case api.CmdPut:
		return putJob{c.Pri, c.Delay, c.TTR, c.Body}
	case api.CmdUse:
		return useTube{c.Tube}
	case api.CmdReserve:
		return reserveFirst{}
	case api.CmdReserveWithin:
		return reserveWithin{c.Number}
	case api.CmdReserveJob:
		return reserveJob{c.Id}
	case api.CmdDelete:
		return deleteJob{c.Id}
	case api.CmdRelease:
		return releaseJob{c.Id, c.Pri, c.Delay}
	case api.CmdBury:
		return buryJob{c.Id, c.Pri}
	case api.CmdTouch:
		return touchJob{c.Id}
	case api.CmdWatch:
		return watchTube{c.Tube}
	case api.CmdIgnore:
		return ignoreTube{c.Tube}
	case api.CmdPeek:
		return peekJob{c.Id}
	case api.CmdPeekReady, api.CmdPeekDelayed, api.CmdPeekBuried:
		return peekFirst{c.Kind}
	case api.CmdKick:
		return kickFirst{c.Number}
	case api.CmdKickJob:
		return kickJob{c.Id}
	case api.CmdStatsJob:
		return statsJob{c.Id}
	case api.CmdStatsTube:
		return statsTube{c.Tube}
	case api.CmdStats:
		return statsShop{}
	case api.CmdListTubes:
		return listTubes{}
	case api.CmdListUsed:
		return listUsed{}
	case api.CmdListWatched:
		return listWatched{}
	}
	return pauseTube{c.Tube, c.Number}
}

// note writes down that a connection puts, or takes.
func (t *turn) note(x command) {
	switch x.(type) {
	case putJob:
		t.seats.Mark(t.conn, true, false)
	case reserveFirst, reserveWithin, reserveJob:
		t.seats.Mark(t.conn, false, true)
	}
}

// only is a reply that is nothing but its kind.
func only(kind int) api.Reply { return api.Reply{Kind: kind} }
