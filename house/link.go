package house

import (
	"slices"

	"stint/api"
	"stint/intake"
	"stint/verbs"
)

// link is what a house has of a connection. Its commands are read as they come, whether it waits or not: so what is too long or too big is never kept, and a command's stamp is the number of the Feed at hand.
type link struct {
	*intake.Intake
	came  int       // how many bytes
	done  int       // so many of them, the first ones, are of commands that were done
	put   api.Cmd   // the one whose body comes, where the intake is at a body
	whole []command // those that were not done, in their order
	waits bool      // as engine.Waits, which goes through all that wait: too slow to be asked of each connection ahead of each command
}

// command is one that is whole.
type command struct {
	cmd     api.Cmd
	refusal int // the kind of the reply by which it is refused without the engine; 0: it is not
	end     int // how many bytes had come from its connection with its last one
	stamp   int
}

// newLink is a connection that keeps bodies of at most so many bytes.
func newLink(most int) *link {
	in, _ := intake.New(most) // it takes each JobMax that a config may have
	return &link{Intake: in}
}

// take takes the bytes of a Feed in, and reads the commands that are whole with them.
func (l *link) take(b []byte, stamp int) {
	l.came += len(b)
	l.Feed(b)
	for item, there := l.Next(); there; item, there = l.Next() {
		cmd, refusal := l.read(item)
		if item.Kind == api.ItemLine && cmd.Kind == api.CmdPut {
			l.put = cmd
			l.Body(cmd.Number)
			continue
		}
		l.whole = append(l.whole, command{cmd, refusal, l.came - l.Held(), stamp})
	}
}

// read is what an item says: a command (of a put's line without its body), or the refusal of one.
func (l *link) read(item api.Item) (api.Cmd, int) {
	switch item.Kind {
	case api.ItemLine:
		return readLine(item.Text)
	case api.ItemBody:
		cmd := l.put
		cmd.Body = item.Body
		return cmd, 0
	case api.ItemBig:
		return api.Cmd{}, api.RepTooBig
	case api.ItemEnd:
		return api.Cmd{}, api.RepExpectedEnd
	}
	return api.Cmd{}, api.RepBadFormat // a line that is too long
}

func readLine(line string) (api.Cmd, int) {
	cmd, err := verbs.Parse(line)
	switch err {
	case api.OK:
		return cmd, 0
	case api.ErrVerbUnknown:
		return api.Cmd{}, api.RepUnknown
	}
	return api.Cmd{}, api.RepBadFormat
}

// pull takes the next command off, as it is done now.
func (l *link) pull() command {
	x := l.whole[0]
	l.done = x.end
	l.whole[0] = command{} // else its body would be kept as long as the list behind it
	l.whole = l.whole[1:]
	if len(l.whole) == 0 {
		l.whole = nil
	}
	return x
}

// clone is a connection that goes its own way. (Bodies are never written to, so both may have them.)
func (l *link) clone() *link {
	x := *l
	x.Intake = l.Clone()
	x.whole = slices.Clone(l.whole)
	return &x
}
