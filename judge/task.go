package judge

import "stint/api"

// task is what was done for a connection last, and was not answered.
type task struct {
	cmd  api.Cmd // zero, if it is a line or a body that is refused
	done int     // the clock at that
	asks asks    // nil: there is no task
}

// newTask is a command that is done.
func newTask(c api.Cmd, now int) task { return task{cmd: c, done: now, asks: asksOf(c)} }

// refusal is a task that is no command, and has one reply.
func refusal(kind int) task { return task{asks: ofKinds(kind)} }

// reserves tells whether it may have to wait for a job.
func (t task) reserves() bool {
	return t.cmd.Kind == api.CmdReserve || t.cmd.Kind == api.CmdReserveWithin
}

// peeksFirst tells whether it asks for a job of the tube that its connection uses.
func (t task) peeksFirst() bool {
	return t.cmd.Kind == api.CmdPeekReady || t.cmd.Kind == api.CmdPeekDelayed || t.cmd.Kind == api.CmdPeekBuried
}
