package house

import (
	"fmt"
	"math"
	"reflect"
	"slices"
	"strings"
	"testing"

	"stint/answers"
	"stint/api"
	"stint/disk"
	"stint/ledger"
)

var (
	five  = api.Config{JobMax: 5, Segment: 4096, Quota: 65536} // the chapter's
	wide  = api.Config{JobMax: 65535, Segment: 4096, Quota: 65536}
	small = api.Config{JobMax: 100, Segment: 256, Quota: 1024}
)

// Numbers that no connection has; some of them are right if their upper bits are lost.
var wrongConns = []int{math.MinInt, math.MinInt + 1, -1 << 32, -64, -63, -2, -1, 64, 65, 128 + 1, 256 + 1, 1<<32 + 1, 1<<62 + 1, math.MaxInt}

// text is a text whose line ends are points.
func text(s string) []byte { return []byte(strings.ReplaceAll(s, ".", "\r\n")) }

// words are outs as texts: D a command is done, S something is said, H a connection is hung up, A something is done to a file.
func words(t *testing.T, outs []api.Out) []string {
	t.Helper()
	var list []string
	for _, x := range outs {
		list = append(list, word(t, x))
	}
	return list
}

// word is an out as a text; it must have no fields but those of its kind.
func word(t *testing.T, x api.Out) string {
	t.Helper()
	only := api.Out{Kind: x.Kind, Conn: x.Conn}
	told := ""
	switch x.Kind {
	case api.OutDone:
		told = fmt.Sprint("D", x.Conn)
	case api.OutHang:
		told = fmt.Sprint("H", x.Conn)
	case api.OutSay:
		only.Data = x.Data
		told = fmt.Sprint("S", x.Conn, " ", strings.ReplaceAll(string(x.Data), "\r\n", "."))
	case api.OutAct:
		only = api.Out{Kind: api.OutAct, Act: x.Act}
		told = "A " + []string{"?", "create", "append", "sync", "cut", "remove"}[x.Act.Kind]
	default:
		t.Errorf("an out that may not be: %s", show(x))
	}
	if !reflect.DeepEqual(x, only) {
		t.Errorf("an out has more fields than it should: %s", show(x))
	}
	return told
}

// spoken are the words of some outs without those of acts, and how many acts there are.
func spoken(t *testing.T, outs []api.Out) (string, int) {
	t.Helper()
	list := words(t, outs)
	said := slices.DeleteFunc(slices.Clone(list), func(w string) bool { return strings.HasPrefix(w, "A ") })
	return strings.Join(said, " "), len(list) - len(said)
}

// show cuts what is long, so that a failure can be read.
func show(x any) string {
	text := fmt.Sprintf("%+v", x)
	if len(text) > 700 {
		return text[:700] + ".."
	}
	return text
}

// tells is all that a house tells.
type tells struct {
	conns []int
	held  []int // by the connections' numbers
	now   int
	jobs  []api.Job
	tubes []api.Tube
	shop  api.Shop
}

func tellsOf(h *House) tells {
	told := tells{now: h.Now(), jobs: ownJobs(h.Jobs()), shop: h.Shop()}
	told.conns = append(told.conns, h.Conns()...)
	told.tubes = append(told.tubes, h.Tubes()...)
	for conn := range api.MaxSeats {
		told.held = append(told.held, h.Held(conn))
	}
	for _, conn := range wrongConns {
		if n := h.Held(conn); n != 0 {
			told.held = append(told.held, n)
		}
	}
	return told
}

// ownJobs are jobs with bodies of their own; one that is none is nil.
func ownJobs(list []api.Job) []api.Job {
	var own []api.Job
	for _, j := range list {
		j.Body = append([]byte(nil), j.Body...)
		own = append(own, j)
	}
	return own
}

// differ tells what of two tellings is not alike.
func differ(got, want tells) string {
	var list []string
	x, y := reflect.ValueOf(got), reflect.ValueOf(want)
	for i := range x.NumField() {
		a, b := fmt.Sprintf("%+v", x.Field(i)), fmt.Sprintf("%+v", y.Field(i))
		if a != b {
			list = append(list, fmt.Sprintf("%s: %s; want %s", x.Type().Field(i).Name, show(a), show(b)))
		}
	}
	return strings.Join(list, "\n")
}

func wantTells(t *testing.T, h *House, want tells) {
	t.Helper()
	if got := tellsOf(h); !reflect.DeepEqual(got, want) {
		t.Errorf("it tells %s", differ(got, want))
	}
}

func wantInt(t *testing.T, got, want int) {
	t.Helper()
	if got != want {
		t.Errorf("it tells %d; want %d", got, want)
	}
}

// ownOuts are outs with lists of their own; one that is none is nil.
func ownOuts(outs []api.Out) []api.Out {
	var own []api.Out
	for _, x := range outs {
		x.Act.Data = append([]byte(nil), x.Act.Data...)
		x.Reply.Body = append([]byte(nil), x.Reply.Body...)
		x.Data = append([]byte(nil), x.Data...)
		own = append(own, x)
	}
	return own
}

func sameOuts(x, y []api.Out) bool { return reflect.DeepEqual(ownOuts(x), ownOuts(y)) }

// bench is a house with the disk to which its acts are done, and with what was said to its connections.
type bench struct {
	t    *testing.T
	h    *House
	d    *disk.Disk
	said map[int]*answers.Reader
}

func newBench(t *testing.T, c api.Config, now int, conns ...int) *bench {
	t.Helper()
	h, acts, err := New(c, now)
	if err != api.OK {
		t.Fatalf("New = %d", err)
	}
	d, _ := disk.New(c.Quota)
	b := &bench{t, h, d, map[int]*answers.Reader{}}
	for _, a := range acts {
		b.act(a)
	}
	b.join(conns...)
	return b
}

func (b *bench) act(a api.Act) {
	b.t.Helper()
	if err := b.d.Do(a); err != api.OK {
		b.t.Fatalf("the disk refuses %s: %d", show(a), err)
	}
}

func (b *bench) join(conns ...int) {
	b.t.Helper()
	for _, conn := range conns {
		if err := b.h.Join(conn); err != api.OK {
			b.t.Fatalf("Join(%d) = %d", conn, err)
		}
		b.said[conn] = answers.New()
	}
}

// done does the acts of some outs, reads what is said, and holds what was told without the acts against a text.
func (b *bench) done(what string, outs []api.Out, want string) {
	b.t.Helper()
	wantInTurn(b.t, what, outs)
	for _, x := range outs {
		switch x.Kind {
		case api.OutAct:
			b.act(x.Act)
		case api.OutSay:
			wantReply(b.t, what, b.said[x.Conn], x.Data)
		}
	}
	if got, _ := spoken(b.t, outs); got != want {
		b.t.Errorf("%s: %s; want %s", what, show(got), show(want))
	}
}

// wantReply: what is said is one reply, whole.
func wantReply(t *testing.T, what string, r *answers.Reader, data []byte) {
	t.Helper()
	r.Feed(data)
	_, there, err := r.Next()
	if !there || err != api.OK || r.Held() != 0 {
		t.Errorf("%s: %q is not one reply", what, data)
	}
}

// wantInTurn is R10 and what P18.11 says of one call's outs: behind each OutDone all acts, then what is said to its connection, then what is said to others.
func wantInTurn(t *testing.T, what string, outs []api.Out) {
	t.Helper()
	conn, said := -1, 0
	for _, x := range outs {
		switch x.Kind {
		case api.OutDone:
			conn, said = x.Conn, 0
		case api.OutSay:
			said++
			if x.Conn == conn && said > 1 {
				t.Errorf("%s: %d is told something behind others, or twice: %s", what, conn, show(words(t, outs)))
			}
		case api.OutAct:
			if said > 0 {
				t.Errorf("%s: an act behind what is said: %s", what, show(words(t, outs)))
			}
		}
	}
}

// feed lets bytes come (line ends are points), and holds what comes of it against a text.
func (b *bench) feed(conn int, s, want string) {
	b.t.Helper()
	outs, err := b.h.Feed(conn, text(s))
	if err != api.OK {
		b.t.Fatalf("Feed(%d, %q) = %d", conn, s, err)
	}
	b.done(fmt.Sprintf("Feed(%d, %s)", conn, show(s)), outs, want)
}

func (b *bench) hang(conn int, want string) {
	b.t.Helper()
	outs, err := b.h.Hang(conn)
	if err != api.OK {
		b.t.Fatalf("Hang(%d) = %d", conn, err)
	}
	b.done(fmt.Sprintf("Hang(%d)", conn), outs, want)
}

// tick lets ticks go by, of which all but the last one say nothing.
func (b *bench) tick(n int, want string) {
	b.t.Helper()
	for i := range n {
		last := ""
		if i == n-1 {
			last = want
		}
		b.done(fmt.Sprintf("the tick to %d", b.h.Now()+1), b.h.Tick(), last)
	}
}

// held holds how many bytes are held of some connections, from 1 on, against numbers.
func (b *bench) held(want ...int) {
	b.t.Helper()
	for i, n := range want {
		if got := b.h.Held(i + 1); got != n {
			b.t.Errorf("Held(%d) = %d; want %d", i+1, got, n)
		}
	}
}

func (b *bench) conns(want ...int) {
	b.t.Helper()
	if got := b.h.Conns(); !slices.Equal(got, want) {
		b.t.Errorf("Conns() = %v; want %v", got, want)
	}
}

// filesOf are the files of a ledger with stored jobs, which are given the ids 1, 2 ..
func filesOf(t *testing.T, c api.Config, list ...api.Stored) []api.File {
	t.Helper()
	l, acts, _ := ledger.New(c)
	d, _ := disk.New(c.Quota)
	for _, j := range list {
		_, more, err := l.Put(j)
		if err != api.OK {
			t.Fatalf("Put = %d", err)
		}
		acts = append(acts, more...)
	}
	for _, a := range acts {
		if err := d.Do(a); err != api.OK {
			t.Fatalf("the disk answers %d", err)
		}
	}
	return d.Files()
}
