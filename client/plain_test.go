package client

import (
	"slices"
	"strings"
	"testing"

	"stint/api"
	"stint/engine"
	"stint/house"
	"stint/verbs"
)

// teller is a desk as a play sees it: connections go by the order in which they were dialled, and what they tell are texts.
type teller interface {
	dial(num int) bool
	call(k int, x api.Cmd) string
	answer(k int) string
	close(k int) string
	work(k, most int, do func(id int, body []byte) error) string
	tick()
	acts() []api.Act
	tells() tells
}

// real is a desk.
type real struct {
	t     *testing.T
	h     *house.House
	d     *Desk
	conns []*Conn
}

func (r *real) dial(num int) bool {
	c, err := r.d.Dial(num)
	if (c == nil) != (err == ErrClosed) || c != nil && err != nil {
		r.t.Fatalf("Dial(%d) = %v, %v", num, c, err)
	}
	if c != nil {
		r.conns = append(r.conns, c)
	}
	return c != nil
}

func (r *real) call(k int, x api.Cmd) string {
	reply, err := r.conns[k].Call(x)
	return told(r.t, reply, err)
}

func (r *real) answer(k int) string {
	reply, err := r.conns[k].Answer()
	return told(r.t, reply, err)
}

func (r *real) close(k int) string { return told(r.t, api.Reply{}, r.conns[k].Close()) }

func (r *real) work(k, most int, do func(id int, body []byte) error) string {
	list, err := r.conns[k].Work(most, do)
	wantOneOf(r.t, err)
	if err == nil {
		return didText(list)
	}
	return didText(list) + "/ " + err.Error()
}

func (r *real) tick() { r.d.Tick() }

func (r *real) acts() []api.Act { return r.d.Acts() }

func (r *real) tells() tells { return tellsOf(r.h) }

// plain is a desk without a house: it has the landed engine, and no bytes go to and fro.
type plain struct {
	t       *testing.T
	jobMax  int
	e       *engine.Engine
	conns   []*plainConn
	foreign []int // connections that are not the desk's
	came    []api.Act
}

type plainConn struct {
	num   int
	open  bool
	asked int // the kind of the command that was not answered
	said  []api.Reply
}

func (p *plain) dial(num int) bool {
	if p.e.Join(num) != api.OK {
		return false
	}
	p.conns = append(p.conns, &plainConn{num: num, open: true})
	return true
}

func (p *plain) share(outs []api.Out) {
	for _, x := range outs {
		if x.Kind == api.OutAct {
			p.came = append(p.came, x.Act)
		}
		for _, c := range p.conns {
			if x.Kind == api.OutSay && c.open && c.num == x.Conn {
				c.said = append(c.said, x.Reply)
			}
		}
	}
}

func (p *plain) leave(c *plainConn) {
	c.open = false
	outs, err := p.e.Leave(c.num)
	if err != api.OK {
		p.t.Fatalf("the engine refuses a Leave")
	}
	p.share(outs)
}

// do is P22.5: the reply, and the error's text.
func (p *plain) do(k int, x api.Cmd) (api.Reply, string) {
	c := p.conns[k]
	switch {
	case !c.open:
		return api.Reply{}, "closed"
	case c.asked != 0:
		return api.Reply{}, "no answer yet"
	case verbs.Check(x) != api.OK:
		return api.Reply{}, "not the protocol"
	case x.Kind == api.CmdQuit:
		p.leave(c)
		return api.Reply{}, ""
	}
	c.asked = x.Kind
	if x.Kind == api.CmdPut && x.Number > p.jobMax {
		c.said = append(c.said, api.Reply{Kind: api.RepTooBig})
		return p.take(k)
	}
	outs, err := p.e.Do(c.num, x)
	if err != api.OK {
		p.t.Fatalf("the engine refuses %s: %d", show(x), err)
	}
	p.share(outs)
	return p.take(k)
}

// take is P22.6.
func (p *plain) take(k int) (api.Reply, string) {
	c := p.conns[k]
	switch {
	case !c.open:
		return api.Reply{}, "closed"
	case c.asked == 0:
		return api.Reply{}, "not the protocol"
	case len(c.said) == 0:
		return api.Reply{}, "no answer yet"
	}
	r, asked := c.said[0], c.asked
	c.said, c.asked = c.said[1:], 0
	if r.Kind == doerOf(p.t, asked) {
		return r, ""
	}
	return r, strings.Fields(verbWords)[asked-1] + ": " + reasonOf(r.Kind)
}

func (p *plain) text(r api.Reply, fault string) string {
	said := replyText(p.t, r)
	switch {
	case fault == "":
		return said
	case said == "":
		return "/ " + fault
	}
	return said + " / " + fault
}

func (p *plain) call(k int, x api.Cmd) string { return p.text(p.do(k, x)) }

func (p *plain) answer(k int) string { return p.text(p.take(k)) }

func (p *plain) close(k int) string {
	if !p.conns[k].open {
		return "/ closed"
	}
	p.leave(p.conns[k])
	return ""
}

func (p *plain) tick() { p.share(p.e.Tick()) }

func (p *plain) acts() []api.Act {
	list := p.came
	p.came = nil
	return list
}

func (p *plain) tells() tells {
	told := tells{held: make([]int, api.MaxSeats), now: p.e.Now(), shop: p.e.Shop()}
	told.conns = append(told.conns, p.foreign...)
	for _, c := range p.conns {
		if c.open {
			told.conns = append(told.conns, c.num)
		}
	}
	slices.Sort(told.conns)
	told.tubes = append(told.tubes, p.e.Tubes()...)
	for _, j := range p.e.Jobs() {
		j.Body = append([]byte(nil), j.Body...)
		told.jobs = append(told.jobs, j)
	}
	return told
}

// work is P22.8, by the texts that are told.
func (p *plain) work(k, most int, do func(id int, body []byte) error) string {
	var list []api.Did
	for n := 0; n < most; n++ {
		r, fault := p.do(k, api.Cmd{Kind: api.CmdReserveWithin})
		if fault == "reserve-with-timeout: timed out" {
			return didText(list)
		}
		if fault != "" {
			return didText(list) + "/ " + fault
		}
		x := api.Cmd{Id: r.Id}
		end := 0
		switch how := tried(do, r.Id, slices.Clone(r.Body)); how {
		case "nil":
			x.Kind, end = api.CmdDelete, api.DidDelete
		case "error":
			x.Kind, x.Pri, x.Delay, end = api.CmdRelease, 1024, 1, api.DidRelease
		default:
			x.Kind, end = api.CmdBury, api.DidBury
		}
		_, fault = p.do(k, x)
		switch {
		case strings.HasSuffix(fault, ": not found"):
			end = api.DidLose
		case fault == "release: buried":
			end = api.DidBury
		case fault != "":
			return didText(list) + "/ " + fault
		}
		list = append(list, api.Did{Id: r.Id, End: end})
	}
	return didText(list)
}

// tried is how a do ended.
func tried(do func(id int, body []byte) error, id int, body []byte) (how string) {
	defer func() {
		if recover() != nil {
			how = "panic"
		}
	}()
	if do(id, body) != nil {
		return "error"
	}
	return "nil"
}
