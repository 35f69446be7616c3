package client

import (
	"errors"
	"fmt"
	"math"
	"reflect"
	"slices"
	"strings"
	"testing"

	"stint/answers"
	"stint/api"
	"stint/house"
	"stint/verbs"
)

var (
	wide  = api.Config{JobMax: 65535, Segment: 4096, Quota: 65536} // the chapter's
	five  = api.Config{JobMax: 5, Segment: 4096, Quota: 65536}
	small = api.Config{JobMax: 100, Segment: 256, Quota: 1024}
)

// Numbers that no connection has; some of them are right if their upper bits are lost.
var wrongConns = []int{math.MinInt, math.MinInt + 1, -1 << 32, -64, -63, -2, -1, 64, 65, 128 + 1, 256 + 1, 1<<32 + 1, 1<<62 + 1, math.MaxInt}

// Numbers that no kind has, of commands or of replies; likewise.
var wrongKinds = []int{math.MinInt, -1 << 32, -25, -6, -1, 0, 26, 27, 256 + 1, 256 + 6, 256 + 17, 1<<32 + 1, 1<<32 + 17, 1<<62 + 6, math.MaxInt}

// the eleven errors, in the chapter's order; the first nine are those of a Refusal.
func eleven() []error {
	return []error{ErrNotFound, ErrNoMemory, ErrDraining, ErrTooBig, ErrSoon, ErrTimedOut, ErrNotIgnored, ErrBuried, ErrProtocol, ErrWaits, ErrClosed}
}

// show cuts what is long, so that a failure can be read.
func show(x any) string {
	text := fmt.Sprintf("%+v", x)
	if len(text) > 700 {
		return text[:700] + ".."
	}
	return text
}

func put(pri, delay, ttr int, body string) api.Cmd {
	return api.Cmd{Kind: api.CmdPut, Pri: pri, Delay: delay, TTR: ttr, Number: len(body), Body: []byte(body)}
}

// cmd is a command without a body, by its line.
func cmd(line string) api.Cmd {
	x, err := verbs.Parse(line)
	if err != api.OK || x.Kind == api.CmdPut {
		panic("no command: " + line)
	}
	return x
}

// replyText is a reply as it is said, its line ends as points but for the last one; the zero reply is no text.
func replyText(t *testing.T, r api.Reply) string {
	t.Helper()
	if len(r.Body) == 0 {
		r.Body = nil
	}
	if reflect.DeepEqual(r, api.Reply{}) {
		return ""
	}
	data, err := answers.Put(r)
	if err != api.OK {
		t.Errorf("it is no reply: %s", show(r))
	}
	return strings.TrimSuffix(strings.ReplaceAll(string(data), "\r\n", "."), ".")
}

// told is what a call tells as a text: its reply, and behind a / its error.
func told(t *testing.T, r api.Reply, err error) string {
	t.Helper()
	said := replyText(t, r)
	wantOneOf(t, err)
	var f *Refusal
	switch {
	case err == nil:
		return said
	case errors.As(err, &f):
		if f.Reply != r.Kind {
			t.Errorf("the reply is %s, and the refusal %+v", said, *f)
		}
		return said + " / " + err.Error()
	case said != "":
		t.Errorf("beside %q the reply is %s", err, said)
	}
	return "/ " + err.Error()
}

// wantOneOf: an error is a refusal with one of the first nine errors, or ErrProtocol, ErrWaits or ErrClosed itself.
func wantOneOf(t *testing.T, err error) {
	t.Helper()
	if err == nil {
		return
	}
	var f *Refusal
	list := slices.DeleteFunc(eleven(), func(x error) bool { return !errors.Is(err, x) })
	if len(list) != 1 {
		t.Fatalf("%q is %d of the errors", err, len(list))
	}
	if place := slices.Index(eleven(), list[0]); errors.As(err, &f) {
		if place > 8 {
			t.Errorf("the refusal %+v is %q", *f, list[0])
		}
	} else if place < 8 || err != list[0] {
		t.Errorf("%q is no refusal", err)
	}
}

// bench is a desk with its house and the connections that were dialled last, by their numbers.
type bench struct {
	t     *testing.T
	h     *house.House
	d     *Desk
	conns map[int]*Conn
}

func newBench(t *testing.T, c api.Config, now int, conns ...int) *bench {
	t.Helper()
	h, _, err := house.New(c, now)
	if err != api.OK {
		t.Fatalf("house.New = %d", err)
	}
	return benchOf(t, h, conns...)
}

func benchOf(t *testing.T, h *house.House, conns ...int) *bench {
	t.Helper()
	b := &bench{t, h, New(h), map[int]*Conn{}}
	for _, num := range conns {
		b.dial(num)
	}
	return b
}

func (b *bench) dial(num int) *Conn {
	b.t.Helper()
	c, err := b.d.Dial(num)
	if c == nil || err != nil {
		b.t.Fatalf("Dial(%d) = %v", num, err)
	}
	b.conns[num] = c
	return c
}

// call does a command, and holds what is told against a text.
func (b *bench) call(num int, x api.Cmd, want string) {
	b.t.Helper()
	r, err := b.conns[num].Call(x)
	if got := told(b.t, r, err); got != want {
		b.t.Errorf("%d calls %s: %s; want %s", num, show(x), show(got), show(want))
	}
}

// calls does commands, each by its line; the texts that are wanted are parted by " + ".
func (b *bench) calls(num int, lines, want string) {
	b.t.Helper()
	texts := strings.Split(want, " + ")
	for i, line := range strings.Split(lines, " + ") {
		b.call(num, cmd(line), texts[i])
	}
}

func (b *bench) answer(num int, want string) {
	b.t.Helper()
	r, err := b.conns[num].Answer()
	if got := told(b.t, r, err); got != want {
		b.t.Errorf("%d asks for its answer: %s; want %s", num, show(got), show(want))
	}
}

func (b *bench) close(num int, want error) {
	b.t.Helper()
	if err := b.conns[num].Close(); err != want {
		b.t.Errorf("%d closes: %v; want %v", num, err, want)
	}
}

func (b *bench) tick(n int) {
	for range n {
		b.d.Tick()
	}
}

// acts holds the acts since they were asked for last against a text: of each the kind and the file.
func (b *bench) acts(want string) {
	b.t.Helper()
	var list []string
	for _, a := range b.d.Acts() {
		list = append(list, fmt.Sprint([]string{"?", "create", "append", "sync", "cut", "remove"}[a.Kind], a.File))
	}
	if got := strings.Join(list, " "); got != want {
		b.t.Errorf("the acts are %s; want %s", show(got), show(want))
	}
}

// jobs holds the jobs against a text: of each its id, the first letter of its state (r, d, R, b), and of one that is reserved its holder.
func (b *bench) jobs(want string) {
	b.t.Helper()
	var list []string
	for _, j := range b.h.Jobs() {
		s := fmt.Sprint(j.Id, []string{"?", "r", "d", "R", "b"}[j.State])
		if j.State == api.Reserved {
			s += fmt.Sprint(j.Holder)
		}
		list = append(list, s)
	}
	if got := strings.Join(list, " "); got != want {
		b.t.Errorf("the jobs are %s; want %s", show(got), show(want))
	}
}

func (b *bench) job(id int) api.Job {
	b.t.Helper()
	for _, j := range b.h.Jobs() {
		if j.Id == id {
			return j
		}
	}
	b.t.Fatalf("there is no job %d", id)
	return api.Job{}
}

func (b *bench) open(want ...int) {
	b.t.Helper()
	if got := b.h.Conns(); !slices.Equal(got, want) {
		b.t.Errorf("the house has the connections %v; want %v", got, want)
	}
}

// didText are ends as a text.
func didText(list []api.Did) string {
	var texts []string
	for _, x := range list {
		texts = append(texts, fmt.Sprint(x.Id, " ", map[int]string{api.DidDelete: "delete", api.DidRelease: "release", api.DidBury: "bury", api.DidLose: "lose"}[x.End]))
	}
	return strings.Join(texts, ", ")
}

// work lets a connection work, and holds what is told against a text: the ends, and behind a / the error.
func (b *bench) work(num, most int, do func(id int, body []byte) error, want string) {
	b.t.Helper()
	list, err := b.conns[num].Work(most, do)
	got := didText(list)
	if err != nil {
		wantOneOf(b.t, err)
		got = strings.TrimSpace(got + " / " + err.Error())
	}
	if got != want {
		b.t.Errorf("%d works: %s; want %s", num, show(got), show(want))
	}
}

// noRoom lets a connection put jobs until there is no room for one more change of a job.
func (b *bench) noRoom(num int) {
	b.t.Helper()
	size := 100
	for range 200 {
		_, err := b.conns[num].Call(put(9, 1<<32-1, 9, strings.Repeat("x", size)))
		if err != nil && !errors.Is(err, ErrNoMemory) {
			b.t.Fatalf("a put: %v", err)
		}
		if err != nil {
			size--
		}
		if size < 0 {
			return
		}
	}
	b.t.Fatalf("there is still room")
}

// tells is all that a house tells.
type tells struct {
	conns, held []int
	now         int
	jobs        []api.Job
	tubes       []api.Tube
	shop        api.Shop
}

func tellsOf(h *house.House) tells {
	told := tells{now: h.Now(), shop: h.Shop()}
	told.conns = append(told.conns, h.Conns()...)
	told.tubes = append(told.tubes, h.Tubes()...)
	for num := range api.MaxSeats {
		told.held = append(told.held, h.Held(num))
	}
	for _, j := range h.Jobs() {
		j.Body = append([]byte(nil), j.Body...)
		told.jobs = append(told.jobs, j)
	}
	return told
}

func wantTells(t *testing.T, what string, got, want tells) {
	t.Helper()
	if !reflect.DeepEqual(got, want) {
		t.Fatalf("%s: the house tells %s; want %s", what, show(got), show(want))
	}
}

// unchanged: nothing of the house changes, and no act comes.
func (b *bench) unchanged(what string, f func()) {
	b.t.Helper()
	before := tellsOf(b.h)
	b.d.Acts()
	f()
	wantTells(b.t, what, tellsOf(b.h), before)
	if acts := b.d.Acts(); len(acts) != 0 {
		b.t.Errorf("%s: there are acts: %s", what, show(acts))
	}
}
