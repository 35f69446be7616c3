package client

import (
	"errors"

	"stint/api"
	"stint/verbs"
)

// The errors.
var (
	ErrNotFound   = errors.New("not found")
	ErrNoMemory   = errors.New("out of memory")
	ErrDraining   = errors.New("draining")
	ErrTooBig     = errors.New("too big")
	ErrSoon       = errors.New("a reservation ends soon")
	ErrTimedOut   = errors.New("timed out")
	ErrNotIgnored = errors.New("not ignored")
	ErrBuried     = errors.New("buried")
	ErrProtocol   = errors.New("not the protocol")
	ErrWaits      = errors.New("no answer yet")
	ErrClosed     = errors.New("closed")
)

// Refusal is a command that was refused: the command's kind, the reply's.
type Refusal struct{ Cmd, Reply int }

func (r *Refusal) Error() string { return verbs.Name(r.Cmd) + ": " + r.Unwrap().Error() }

// Unwrap is one of the errors above.
func (r *Refusal) Unwrap() error {
	switch r.Reply {
	case api.RepNotFound:
		return ErrNotFound
	case api.RepNoMemory:
		return ErrNoMemory
	case api.RepDraining:
		return ErrDraining
	case api.RepTooBig:
		return ErrTooBig
	case api.RepSoon:
		return ErrSoon
	case api.RepTimedOut:
		return ErrTimedOut
	case api.RepNotIgnored:
		return ErrNotIgnored
	case api.RepBuried:
		return ErrBuried
	}
	return ErrProtocol
}

// Fault is the error of a reply to a kind of command; nil: it was done.
func Fault(cmd int, r api.Reply) error {
	if done := doneBy(cmd); done != 0 && done == r.Kind {
		return nil
	}
	return &Refusal{Cmd: cmd, Reply: r.Kind}
}

// doneBy is the kind of the reply that does a kind of command; 0: none does.
func doneBy(cmd int) int {
	switch cmd {
	case api.CmdPut:
		return api.RepInserted
	case api.CmdUse, api.CmdListUsed:
		return api.RepUsing
	case api.CmdReserve, api.CmdReserveWithin, api.CmdReserveJob:
		return api.RepReserved
	case api.CmdDelete:
		return api.RepDeleted
	case api.CmdRelease:
		return api.RepReleased
	case api.CmdBury:
		return api.RepBuried
	case api.CmdTouch:
		return api.RepTouched
	case api.CmdWatch, api.CmdIgnore:
		return api.RepWatching
	case api.CmdPeek, api.CmdPeekReady, api.CmdPeekDelayed, api.CmdPeekBuried:
		return api.RepFound
	case api.CmdKick:
		return api.RepKicked
	case api.CmdKickJob:
		return api.RepKickedJob
	case api.CmdPause:
		return api.RepPaused
	case api.CmdStatsJob, api.CmdStatsTube, api.CmdStats, api.CmdListTubes, api.CmdListWatched:
		return api.RepData
	}
	return 0
}
