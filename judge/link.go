package judge

import (
	"stint/answers"
	"stint/api"
	"stint/intake"
	"stint/verbs"
)

// link is an open connection.
type link struct {
	heard   *intake.Intake
	told    *answers.Reader
	uses    string
	watched map[string]*tube
	offers  int          // how many of the watched tubes offer a job; asked ahead of nearly each event, so they are not counted anew
	held    map[int]*job // those whose holder it is, be their time over or not
	task    task
}

// newLink is a connection that watches nothing yet.
func newLink(most int) *link {
	in, _ := intake.New(most) // it takes each JobMax that a config may have
	return &link{heard: in, told: answers.New(), uses: api.Default, watched: map[string]*tube{}, held: map[int]*job{}}
}

// next reads the next command as the task; false: there is none, or it is not whole.
func (x *link) next(now int) bool {
	x.task = task{}
	item, _ := x.heard.Next()
	switch item.Kind {
	case api.ItemLine:
		return x.nextLine(item.Text, now)
	case api.ItemLong:
		x.task = refusal(api.RepBadFormat)
		return true
	}
	return false // there is no item, or it is a body whose put's line was taken earlier
}

// nextLine reads a line, and a put's body behind it.
func (x *link) nextLine(line string, now int) bool {
	cmd, err := verbs.Parse(line)
	switch {
	case err == api.ErrVerbUnknown:
		x.task = refusal(api.RepUnknown)
	case err != api.OK:
		x.task = refusal(api.RepBadFormat)
	case cmd.Kind == api.CmdPut:
		return x.nextBody(cmd, now)
	case cmd.Kind != api.CmdQuit:
		x.task = newTask(cmd, now)
	}
	return true
}

// nextBody reads a put's body.
func (x *link) nextBody(put api.Cmd, now int) bool {
	x.heard.Body(put.Number)
	item, there := x.heard.Next()
	switch item.Kind {
	case api.ItemBody:
		put.Body = item.Body
		x.task = newTask(put, now)
	case api.ItemBig:
		x.task = refusal(api.RepTooBig)
	case api.ItemEnd:
		x.task = refusal(api.RepExpectedEnd)
	}
	return there
}

func (x *link) watches(name string) bool { return x.watched[name] != nil }

// hasAhead tells whether a job is free for it that ranks ahead of another one.
func (x *link) hasAhead(r rank) bool {
	for _, t := range x.watched {
		if t.offers() && byRank(t.fresh[0], r) < 0 {
			return true
		}
	}
	return false
}
