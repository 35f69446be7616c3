package judge

import (
	"fmt"
	"slices"
	"strings"

	"stint/answers"
	"stint/api"
	"stint/intake"
	"stint/verbs"
)

// plainJob is a job as the chapter has it; a nil one of its fields is not known.
type plainJob struct {
	id                    int
	body, tube            *string
	pri, ttr              *int
	holder                int // -1: none
	until                 int
	fresh, gone, doubtful bool
	strange               bool
}

// plainTask is a task: bad, unknown, big, cut, or a command's verb.
type plainTask struct {
	what string
	cmd  api.Cmd
	at   int
}

// plainConn is an open connection.
type plainConn struct {
	num     int
	in      *intake.Intake
	out     *answers.Reader
	uses    string
	watches []string
	task    *plainTask
}

// plainJudge goes through lists for everything, and keeps nothing that can be told from something else.
type plainJudge struct {
	c        api.Config
	clock    int
	draining bool
	conns    []*plainConn
	jobs     []*plainJob
	marked   []string
	lost     []string
	broken   map[int]int // by rules: ids
}

// plainAll is All, of what may be judged.
func plainAll(c api.Config, l []api.Event) []api.Fault {
	p := &plainJudge{c: c}
	var list []api.Fault
	for at, e := range l {
		p.broken = map[int]int{}
		p.event(e)
		for rule := 1; rule <= 10; rule++ {
			if id, is := p.broken[rule]; is {
				list = append(list, api.Fault{At: at, Rule: rule, Id: id})
			}
		}
	}
	return list
}

func (p *plainJudge) breaks(rule, id int) {
	if _, is := p.broken[rule]; !is {
		p.broken[rule] = id
	}
}

func (p *plainJudge) conn(n int) *plainConn {
	for _, x := range p.conns {
		if x.num == n {
			return x
		}
	}
	return nil
}

func (p *plainJudge) job(id int) *plainJob {
	for _, k := range p.jobs {
		if k.id == id {
			return k
		}
	}
	return nil
}

func (p *plainJudge) event(e api.Event) {
	if e.Kind != api.EvSaid && e.Kind != api.EvDown {
		for _, x := range p.conns {
			if x.task != nil && p.due(x) {
				p.breaks(api.RuleTime, 0)
			}
		}
	}
	x := p.conn(e.Conn)
	switch e.Kind {
	case api.EvOpened:
		p.goes(e.Conn)
		in, _ := intake.New(p.c.JobMax)
		p.conns = append(p.conns, &plainConn{num: e.Conn, in: in, out: answers.New(), uses: "default", watches: []string{"default"}})
	case api.EvHeard:
		if x != nil {
			x.in.Feed(e.Data)
		}
	case api.EvSaid:
		p.said(x, e.Data)
	case api.EvHung:
		p.goes(e.Conn)
	case api.EvDown:
		p.down()
	case api.EvDrains:
		p.draining = true
	case api.EvDone:
		p.done(x)
	}
	if e.Kind == api.EvTicked || e.Kind == api.EvDown || e.Kind == api.EvUp {
		p.clock = e.Now
	}
}

func (p *plainJudge) due(x *plainConn) bool {
	switch x.task.what {
	case "reserve":
		return p.anyFree(x)
	case "reserve-with-timeout":
		return p.anyFree(x) || p.clock >= x.task.at+x.task.cmd.Number
	}
	return true
}

func (p *plainJudge) goes(n int) {
	p.conns = slices.DeleteFunc(p.conns, func(x *plainConn) bool { return x.num == n })
	for _, k := range p.jobs {
		if k.holder == n {
			k.holder = -1
		}
	}
}

func (p *plainJudge) down() {
	for _, x := range p.conns {
		if x.task == nil {
			continue
		}
		k := p.job(x.task.cmd.Id)
		switch x.task.what {
		case "put":
			p.lost = append(p.lost, string(x.task.cmd.Body))
		case "delete":
			if k != nil {
				k.doubtful, k.fresh = true, false
			}
		case "release", "bury", "kick-job", "reserve-job":
			if k != nil {
				k.pri, k.fresh = nil, false
			}
		}
	}
	p.conns, p.draining = nil, false
	for _, k := range p.jobs {
		k.holder = -1
	}
}

func (p *plainJudge) done(x *plainConn) {
	if x == nil {
		p.breaks(api.RuleAnswer, 0)
		return
	}
	x.task = nil
	item, there := x.in.Next()
	if !there || item.Kind != api.ItemLine && item.Kind != api.ItemLong {
		p.breaks(api.RuleAnswer, 0)
		return
	}
	x.task = &plainTask{what: "bad", at: p.clock}
	if item.Kind == api.ItemLong {
		return
	}
	cmd, err := verbs.Parse(item.Text)
	if err == api.ErrVerbUnknown {
		x.task.what = "unknown"
	}
	if err != api.OK {
		return
	}
	x.task.what, x.task.cmd = verbs.Name(cmd.Kind), cmd
	if x.task.what == "quit" {
		x.task = nil
	}
	if cmd.Kind != api.CmdPut {
		return
	}
	x.in.Body(cmd.Number)
	item, there = x.in.Next()
	switch {
	case !there:
		x.task = nil
		p.breaks(api.RuleAnswer, 0)
	case item.Kind == api.ItemBig:
		x.task = &plainTask{what: "big"}
	case item.Kind == api.ItemEnd:
		x.task = &plainTask{what: "cut"}
	default:
		x.task.cmd.Body = item.Body
	}
}

func (p *plainJudge) surely(x int, k *plainJob) bool {
	return k != nil && k.holder >= 0 && k.holder == x && p.clock < k.until
}

func (p *plainJudge) may(x int, k *plainJob) bool {
	return p.surely(x, k) || k != nil && k.holder == x && k.ttr == nil
}

func (p *plainJudge) free(x *plainConn, k *plainJob) bool {
	return k.fresh && slices.Contains(x.watches, *k.tube) && !slices.Contains(p.marked, *k.tube)
}

func (p *plainJudge) anyFree(x *plainConn) bool {
	return slices.ContainsFunc(p.jobs, func(k *plainJob) bool { return p.free(x, k) })
}

func (p *plainJudge) said(x *plainConn, data []byte) {
	if x == nil {
		p.breaks(api.RuleAnswer, 0)
		return
	}
	x.out.Feed(data)
	r, there, err := x.out.Next()
	for ; there; r, there, err = x.out.Next() {
		task := x.task
		x.task = nil
		if task == nil || !p.mayAnswer(x, task, r) {
			p.breaks(api.RuleAnswer, 0)
			continue
		}
		if p.rules(x, task, r) {
			p.comes(x, task, r)
		}
	}
	if err != api.OK {
		p.breaks(api.RuleForm, 0)
	}
}

// mayAnswer is P21.2, by the replies' bytes.
func (p *plainJudge) mayAnswer(x *plainConn, t *plainTask, r api.Reply) bool {
	data, _ := answers.Put(r)
	line, _, _ := strings.Cut(string(data), "\r\n")
	word, rest, more := strings.Cut(line, " ")
	first, _, _ := strings.Cut(rest, " ")
	with := len(slices.DeleteFunc(slices.Clone(x.watches), func(s string) bool { return s == t.cmd.Tube })) + 1
	switch t.what {
	case "bad":
		return line == "BAD_FORMAT"
	case "unknown":
		return line == "UNKNOWN_COMMAND"
	case "big":
		return line == "JOB_TOO_BIG"
	case "cut":
		return line == "EXPECTED_CRLF"
	case "put":
		return p.draining == (line == "DRAINING") && (word == "INSERTED" || line == "OUT_OF_MEMORY" || line == "DRAINING")
	case "use":
		return line == "USING "+t.cmd.Tube
	case "list-tube-used":
		return line == "USING "+x.uses
	case "reserve", "reserve-with-timeout":
		return word == "RESERVED" || line == "DEADLINE_SOON" && p.soon(x) || line == "TIMED_OUT" && t.what != "reserve" && p.clock-t.at >= t.cmd.Number
	case "reserve-job":
		return word == "RESERVED" && first == fmt.Sprint(t.cmd.Id) || line == "NOT_FOUND" || line == "OUT_OF_MEMORY"
	case "release":
		return line == "RELEASED" || line == "BURIED" || line == "NOT_FOUND"
	case "watch":
		return line == fmt.Sprint("WATCHING ", with)
	case "ignore":
		if slices.Equal(x.watches, []string{t.cmd.Tube}) {
			return line == "NOT_IGNORED"
		}
		return line == fmt.Sprint("WATCHING ", with-1)
	case "peek":
		return word == "FOUND" && first == fmt.Sprint(t.cmd.Id) || line == "NOT_FOUND"
	case "peek-ready", "peek-delayed", "peek-buried":
		return word == "FOUND" || line == "NOT_FOUND"
	case "kick":
		return word == "KICKED" && more && r.Number <= t.cmd.Number
	case "kick-job":
		return line == "KICKED" || line == "NOT_FOUND" || line == "OUT_OF_MEMORY"
	case "stats-job", "stats-tube":
		return word == "OK" || line == "NOT_FOUND"
	case "stats", "list-tubes", "list-tubes-watched":
		return word == "OK"
	}
	past := map[string]string{"delete": "DELETED", "touch": "TOUCHED", "bury": "BURIED", "pause-tube": "PAUSED"}[t.what]
	return line == past || line == "NOT_FOUND"
}

func (p *plainJudge) soon(x *plainConn) bool {
	return slices.ContainsFunc(p.jobs, func(k *plainJob) bool {
		return p.may(x.num, k) && (k.ttr == nil || k.until <= p.clock+1)
	})
}

// speaksOf is P21.3's first words.
func speaksOf(t *plainTask, r api.Reply) (int, bool) {
	switch r.Kind {
	case api.RepInserted, api.RepReserved, api.RepFound:
		return r.Id, true
	case api.RepDeleted, api.RepReleased, api.RepBuried, api.RepTouched, api.RepKickedJob:
		return t.cmd.Id, true
	case api.RepData:
		if t.what == "stats-job" {
			return t.cmd.Id, true
		}
	}
	return 0, false
}

// rules is P21.3; it tells whether none is broken.
func (p *plainJudge) rules(x *plainConn, t *plainTask, r api.Reply) bool {
	id, speaks := speaksOf(t, r)
	if r.Kind == api.RepInserted {
		if p.job(id) != nil {
			p.breaks(api.RuleAgain, id)
		}
		return len(p.broken) == 0
	}
	before := len(p.broken)
	if speaks {
		k := p.job(id)
		if k != nil && k.gone || k == nil && p.strangers() == len(p.lost) {
			p.breaks(api.RuleGone, id)
			return false
		}
		p.rulesOfJob(x, t, r, id, k)
	}
	if (r.Kind == api.RepSoon || r.Kind == api.RepTimedOut) && p.anyFree(x) {
		p.breaks(api.RuleOrder, 0)
	}
	if r.Kind == api.RepNotFound && p.isLost(x, t) {
		p.breaks(api.RuleLost, t.cmd.Id)
	}
	return len(p.broken) == before
}

func (p *plainJudge) strangers() int {
	n := 0
	for _, k := range p.jobs {
		if k.strange {
			n++
		}
	}
	return n
}

func (p *plainJudge) rulesOfJob(x *plainConn, t *plainTask, r api.Reply, id int, k *plainJob) {
	if r.Kind == api.RepReserved || r.Kind == api.RepFound {
		if k != nil && k.body != nil && *k.body != string(r.Body) || (k == nil || k.body == nil) && !slices.Contains(p.lost, string(r.Body)) {
			p.breaks(api.RuleBody, id)
		}
	}
	holder := -1 // who surely holds it
	for n := range 64 {
		if p.surely(n, k) {
			holder = n
		}
	}
	switch r.Kind {
	case api.RepReserved, api.RepKickedJob:
		if holder >= 0 {
			p.breaks(api.RuleHold, id)
		}
	case api.RepDeleted:
		if holder >= 0 && holder != x.num {
			p.breaks(api.RuleHold, id)
		}
	case api.RepReleased, api.RepBuried, api.RepTouched:
		if !p.may(x.num, k) {
			p.breaks(api.RuleHold, id)
		}
	}
	if k == nil {
		return
	}
	reserve := r.Kind == api.RepReserved && t.what != "reserve-job"
	if k.tube != nil && (reserve && !slices.Contains(x.watches, *k.tube) || r.Kind == api.RepFound && t.what != "peek" && *k.tube != x.uses) {
		p.breaks(api.RuleTube, id)
	}
	if reserve && k.pri != nil && slices.ContainsFunc(p.jobs, func(o *plainJob) bool {
		return p.free(x, o) && (*o.pri < *k.pri || *o.pri == *k.pri && o.id < k.id)
	}) {
		p.breaks(api.RuleOrder, id)
	}
}

// isLost is RuleLost, of a RepNotFound.
func (p *plainJudge) isLost(x *plainConn, t *plainTask) bool {
	if t.what == "peek-ready" {
		return slices.ContainsFunc(p.jobs, func(k *plainJob) bool { return k.fresh && *k.tube == x.uses })
	}
	k := p.job(t.cmd.Id)
	if k == nil {
		return false
	}
	switch t.what {
	case "peek", "stats-job":
		return !k.gone && !k.doubtful
	case "delete":
		return k.fresh || p.surely(x.num, k)
	case "reserve-job":
		return k.fresh
	case "release", "bury", "touch":
		return p.surely(x.num, k)
	}
	return false
}

// comes is P21.4.
func (p *plainJudge) comes(x *plainConn, t *plainTask, r api.Reply) {
	id, speaks := speaksOf(t, r)
	k := p.job(id)
	if speaks && k == nil {
		k = &plainJob{id: id, holder: -1, strange: r.Kind != api.RepInserted}
		p.jobs = append(p.jobs, k)
	}
	ttr := 1
	if k != nil && k.ttr != nil {
		ttr = *k.ttr
	}
	body, uses, cmd := string(r.Body), x.uses, t.cmd
	switch r.Kind {
	case api.RepInserted:
		body = string(cmd.Body)
		k.body, k.tube, k.pri, k.ttr, k.fresh = &body, &uses, &cmd.Pri, &cmd.TTR, cmd.Delay == 0
	case api.RepReserved:
		k.body, k.doubtful = &body, false
		k.holder, k.until, k.fresh = x.num, p.clock+ttr, false
	case api.RepFound:
		k.body, k.doubtful = &body, false
	case api.RepTouched:
		k.until = p.clock + ttr
	case api.RepDeleted:
		k.gone, k.fresh, k.holder = true, false, -1
	case api.RepReleased:
		k.holder, k.pri, k.fresh = -1, &cmd.Pri, k.tube != nil && cmd.Delay == 0
	case api.RepBuried:
		k.holder, k.pri, k.fresh = -1, &cmd.Pri, false
	case api.RepKickedJob:
		k.fresh = k.tube != nil && k.pri != nil
	case api.RepUsing:
		if t.what == "use" {
			x.uses = cmd.Tube
		}
	case api.RepWatching:
		x.watches = slices.DeleteFunc(x.watches, func(s string) bool { return s == cmd.Tube })
		if t.what == "watch" {
			x.watches = append(x.watches, cmd.Tube)
		}
	case api.RepPaused:
		p.marked = append(p.marked, cmd.Tube)
	}
}
