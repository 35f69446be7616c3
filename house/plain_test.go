package house

import (
	"bytes"
	"slices"

	"stint/answers"
	"stint/api"
	"stint/engine"
	"stint/verbs"
)

// plainConn is a connection as the chapter has it: all that came from it, of each byte the number of its Feed, and how many of the bytes are of commands that were done.
type plainConn struct {
	num    int
	came   []byte
	stamps []int
	done   int
}

// plain is a house that keeps all that came, and reads it anew each time, as the chapter says it. It has the landed engine.
type plain struct {
	c     api.Config
	e     *engine.Engine
	conns []*plainConn
	feeds int
	outs  []api.Out
}

func plainNew(c api.Config, now int) *plain {
	e, _, _ := engine.New(c, now)
	return &plain{c: c, e: e}
}

func (p *plain) clone() *plain {
	x := *p
	x.e = p.e.Clone()
	x.conns = nil
	for _, c := range p.conns {
		x.conns = append(x.conns, &plainConn{c.num, slices.Clone(c.came), slices.Clone(c.stamps), c.done})
	}
	return &x
}

func (p *plain) conn(num int) *plainConn {
	for _, c := range p.conns {
		if c.num == num {
			return c
		}
	}
	return nil
}

func (p *plain) join(num int) api.Errno {
	if num < 0 || num > 63 || p.conn(num) != nil {
		return api.ErrHouseConn
	}
	p.conns = append(p.conns, &plainConn{num: num})
	if p.e.Join(num) != api.OK {
		panic("the engine refuses what the house does not")
	}
	return api.OK
}

func (p *plain) hang(num int) ([]api.Out, api.Errno) {
	if p.conn(num) == nil {
		return nil, api.ErrHouseConn
	}
	p.leave(num)
	p.goOn()
	return p.taken(), api.OK
}

func (p *plain) leave(num int) {
	p.conns = slices.DeleteFunc(p.conns, func(c *plainConn) bool { return c.num == num })
	outs, err := p.e.Leave(num)
	if err != api.OK {
		panic("the engine refuses a Leave")
	}
	p.put(outs)
}

func (p *plain) feed(num int, b []byte) ([]api.Out, api.Errno) {
	c := p.conn(num)
	if c == nil {
		return nil, api.ErrHouseConn
	}
	p.feeds++
	for _, x := range b {
		c.came = append(c.came, x)
		c.stamps = append(c.stamps, p.feeds)
	}
	p.goOn()
	return p.taken(), api.OK
}

func (p *plain) tick() []api.Out {
	p.put(p.e.Tick())
	p.goOn()
	return p.taken()
}

func (p *plain) taken() []api.Out {
	outs := p.outs
	p.outs = nil
	return outs
}

// put lays an engine's outs down as those of a house.
func (p *plain) put(outs []api.Out) {
	for _, x := range outs {
		if x.Kind == api.OutSay {
			p.say(x.Conn, x.Reply)
		} else {
			p.outs = append(p.outs, x)
		}
	}
}

func (p *plain) say(num int, r api.Reply) {
	data, err := answers.Put(r)
	if err != api.OK {
		panic("no reply")
	}
	p.outs = append(p.outs, api.Out{Kind: api.OutSay, Conn: num, Data: data})
}

// plainCmd is a command: how many bytes it has, what the engine does for it, or the reply by which it is refused.
type plainCmd struct {
	size  int
	c     api.Cmd
	reply int
}

// readPlain is the first command of some bytes; false: it is not whole.
func readPlain(b []byte, jobMax int) (plainCmd, bool) {
	end := bytes.Index(b, []byte("\r\n"))
	if end < 0 {
		return plainCmd{}, false
	}
	size := end + 2
	if size > 224 {
		return plainCmd{size: size, reply: api.RepBadFormat}, true
	}
	c, err := verbs.Parse(string(b[:end]))
	switch {
	case err == api.ErrVerbUnknown:
		return plainCmd{size: size, reply: api.RepUnknown}, true
	case err != api.OK:
		return plainCmd{size: size, reply: api.RepBadFormat}, true
	case c.Kind != api.CmdPut:
		return plainCmd{size: size, c: c}, true
	}
	n := c.Number
	if len(b) < size+n+2 {
		return plainCmd{}, false
	}
	rest := b[size : size+n+2]
	size += n + 2
	if n > jobMax {
		return plainCmd{size: size, reply: api.RepTooBig}, true
	}
	if string(rest[n:]) != "\r\n" {
		return plainCmd{size: size, reply: api.RepExpectedEnd}, true
	}
	c.Body = slices.Clone(rest[:n])
	return plainCmd{size: size, c: c}, true
}

// goOn is the section's 'To go on', word by word.
func (p *plain) goOn() {
	for {
		var best *plainConn
		var next plainCmd
		stamp := 0
		for _, c := range p.conns {
			x, whole := readPlain(c.came[c.done:], p.c.JobMax)
			if p.e.Waits(c.num) || !whole {
				continue
			}
			if at := c.stamps[c.done+x.size-1]; best == nil || at < stamp {
				best, next, stamp = c, x, at
			}
		}
		if best == nil {
			return
		}
		p.do(best, next)
	}
}

func (p *plain) do(c *plainConn, x plainCmd) {
	c.done += x.size
	p.outs = append(p.outs, api.Out{Kind: api.OutDone, Conn: c.num})
	switch {
	case x.reply != 0:
		p.say(c.num, api.Reply{Kind: x.reply})
	case x.c.Kind == api.CmdQuit:
		p.outs = append(p.outs, api.Out{Kind: api.OutHang, Conn: c.num})
		p.leave(c.num)
	default:
		outs, err := p.e.Do(c.num, x.c)
		if err != api.OK {
			panic("the engine refuses a command")
		}
		p.put(outs)
	}
}

func (p *plain) tells() tells {
	told := tells{held: make([]int, 64), now: p.e.Now(), jobs: ownJobs(p.e.Jobs()), tubes: p.e.Tubes(), shop: p.e.Shop()}
	for _, c := range p.conns {
		told.conns = append(told.conns, c.num)
		told.held[c.num] = len(c.came) - c.done
	}
	slices.Sort(told.conns)
	return told
}

// atRest is P18.9 of a plain house, as the chapter says it.
func (p *plain) atRest() bool {
	for _, c := range p.conns {
		if _, whole := readPlain(c.came[c.done:], p.c.JobMax); whole && !p.e.Waits(c.num) {
			return false
		}
	}
	return true
}
