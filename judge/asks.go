package judge

import (
	"slices"

	"stint/api"
)

// told is a reply without its body, so that two of them can be compared.
type told struct {
	kind, id, number int
	tube             string
}

func toldOf(r api.Reply) told { return told{r.Kind, r.Id, r.Number, r.Tube} }

// asks is what a task may be answered.
type asks interface {
	// allows tells whether the task of a connection may be answered so.
	allows(j *judge, x *link, r told) bool
}

// asksOf is what a command may be answered.
func asksOf(c api.Cmd) asks {
	switch c.Kind {
	case api.CmdPut:
		return toPut{}
	case api.CmdUse:
		return oneOf{{kind: api.RepUsing, tube: c.Tube}}
	case api.CmdReserve, api.CmdReserveWithin:
		return toReserve{}
	case api.CmdReserveJob:
		return append(ofKinds(api.RepNotFound, api.RepNoMemory), told{kind: api.RepReserved, id: c.Id})
	case api.CmdDelete:
		return ofKinds(api.RepDeleted, api.RepNotFound)
	case api.CmdRelease:
		return ofKinds(api.RepReleased, api.RepBuried, api.RepNotFound)
	case api.CmdBury:
		return ofKinds(api.RepBuried, api.RepNotFound)
	case api.CmdTouch:
		return ofKinds(api.RepTouched, api.RepNotFound)
	case api.CmdWatch:
		return toWatch{c.Tube}
	case api.CmdIgnore:
		return toIgnore{c.Tube}
	case api.CmdPeek:
		return append(ofKinds(api.RepNotFound), told{kind: api.RepFound, id: c.Id})
	case api.CmdPeekReady, api.CmdPeekDelayed, api.CmdPeekBuried:
		return toPeekFirst{}
	case api.CmdKick:
		return toKick{c.Number}
	case api.CmdKickJob:
		return ofKinds(api.RepKickedJob, api.RepNotFound, api.RepNoMemory)
	case api.CmdStatsJob, api.CmdStatsTube:
		return ofKinds(api.RepData, api.RepNotFound)
	case api.CmdListUsed:
		return toListUsed{}
	case api.CmdPause:
		return ofKinds(api.RepPaused, api.RepNotFound)
	}
	return ofKinds(api.RepData) // stats, list-tubes, list-tubes-watched
}

// oneOf are all the replies that may be.
type oneOf []told

// ofKinds are replies that are nothing but their kinds (and perhaps a body).
func ofKinds(kinds ...int) oneOf {
	var list oneOf
	for _, kind := range kinds {
		list = append(list, told{kind: kind})
	}
	return list
}

func (o oneOf) allows(_ *judge, _ *link, r told) bool { return slices.Contains(o, r) }

type toPut struct{}

func (toPut) allows(j *judge, _ *link, r told) bool {
	if j.drains {
		return r.kind == api.RepDraining
	}
	return r.kind == api.RepInserted || r.kind == api.RepNoMemory
}

type toReserve struct{}

func (toReserve) allows(j *judge, x *link, r told) bool {
	switch r.kind {
	case api.RepReserved:
		return true
	case api.RepSoon:
		return j.isSoon(x)
	case api.RepTimedOut:
		return j.isOver(x.task)
	}
	return false
}

type toWatch struct{ tube string }

func (a toWatch) allows(_ *judge, x *link, r told) bool {
	count := len(x.watched)
	if !x.watches(a.tube) {
		count++
	}
	return r == told{kind: api.RepWatching, number: count}
}

type toIgnore struct{ tube string }

func (a toIgnore) allows(_ *judge, x *link, r told) bool {
	count := len(x.watched)
	if x.watches(a.tube) {
		count--
	}
	if count == 0 {
		return r == told{kind: api.RepNotIgnored}
	}
	return r == told{kind: api.RepWatching, number: count}
}

type toPeekFirst struct{}

func (toPeekFirst) allows(_ *judge, _ *link, r told) bool {
	return r.kind == api.RepFound || r.kind == api.RepNotFound
}

type toKick struct{ most int }

func (a toKick) allows(_ *judge, _ *link, r told) bool {
	return r.kind == api.RepKicked && r.number <= a.most
}

type toListUsed struct{}

func (toListUsed) allows(_ *judge, x *link, r told) bool {
	return r == told{kind: api.RepUsing, tube: x.uses}
}
