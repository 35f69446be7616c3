package client

import (
	"errors"

	"stint/api"
)

// How a job goes back that could not be done: behind all that is urgent, and not at once.
const (
	laterPri   = 1024
	laterDelay = 1
)

// Work takes jobs, at most so many, and does them; what became of each.
func (c *Conn) Work(most int, do func(id int, body []byte) error) ([]api.Did, error) {
	var list []api.Did
	for range most {
		job, err := c.Call(api.Cmd{Kind: api.CmdReserveWithin})
		if errors.Is(err, ErrTimedOut) {
			break
		}
		if err != nil {
			return list, err
		}
		did, err := c.end(attempt(do, job.Id, job.Body))
		if err != nil {
			return list, err
		}
		list = append(list, api.Did{Id: job.Id, End: did})
	}
	return list, nil
}

// ending is the command by which a job is ended, and what became of the job if that is done.
type ending struct {
	cmd api.Cmd
	did int
}

// attempt lets do have a job, and is how the job has to be ended then.
func attempt(do func(id int, body []byte) error, id int, body []byte) (e ending) {
	// This stands unless do answers, so what do panicked with need not be looked at.
	e = ending{api.Cmd{Kind: api.CmdBury, Id: id}, api.DidBury}
	defer func() { recover() }()
	if do(id, body) != nil {
		return ending{api.Cmd{Kind: api.CmdRelease, Id: id, Pri: laterPri, Delay: laterDelay}, api.DidRelease}
	}
	return ending{api.Cmd{Kind: api.CmdDelete, Id: id}, api.DidDelete}
}

// end ends a job, and tells what became of it.
func (c *Conn) end(e ending) (int, error) {
	_, err := c.Call(e.cmd)
	var refused *Refusal
	switch {
	case err == nil:
		return e.did, nil
	case errors.Is(err, ErrNotFound):
		return api.DidLose, nil
	case errors.As(err, &refused) && refused.Cmd == api.CmdRelease && errors.Is(err, ErrBuried):
		return api.DidBury, nil // there was no room for it to go back
	}
	return 0, err
}
