package world

import (
	"fmt"
	"math"
	"reflect"
	"strings"
	"testing"

	"stint/api"
)

var (
	mild  = api.Config{JobMax: 100, Segment: 256, Quota: 4096} // the chapter's
	small = api.Config{JobMax: 100, Segment: 256, Quota: 1024}
	wide  = api.Config{JobMax: 65535, Segment: 4096, Quota: 65536}
)

// Numbers that no connection has, and those that no kind has; some of them are right if their upper bits are lost.
var (
	wrongConns = []int{math.MinInt, math.MinInt + 1, -1 << 32, -64, -2, -1, 64, 65, 128 + 1, 256 + 1, 1<<32 + 1, 1<<62 + 1, math.MaxInt}
	wrongKinds = []int{math.MinInt, -1 << 32, -7, -1, 0, 8, 9, 10, 256 + 1, 256 + 4, 1<<32 + 2, 1<<32 + 6, 1<<62 + 7, math.MaxInt}
)

// text is a text whose line ends are points.
func text(s string) []byte { return []byte(strings.ReplaceAll(s, ".", "\r\n")) }

func opens(conn int) api.Step { return api.Step{Kind: api.StOpen, Conn: conn} }

func feeds(conn int, s string) api.Step { return api.Step{Kind: api.StFeed, Conn: conn, Data: text(s)} }

func hangs(conn int) api.Step { return api.Step{Kind: api.StHang, Conn: conn} }

func crashes(keep ...int) api.Step { return api.Step{Kind: api.StCrash, Keep: keep} }

// Steps that are nothing but their kind.
var (
	ticks  = api.Step{Kind: api.StTick}
	drains = api.Step{Kind: api.StDrain}
	starts = api.Step{Kind: api.StStart}
)

// broken is a step with a break.
func broken(s api.Step, b int, keep ...int) api.Step {
	s.Break, s.Keep = b, keep
	return s
}

// words are events as texts: O a connection came, H it was heard, D a command of it is done, S something is said to it, X it was hung up, T the clock ticked; the others as they are called.
func words(t *testing.T, events []api.Event) string {
	t.Helper()
	var list []string
	for _, e := range events {
		list = append(list, word(t, e))
	}
	return strings.Join(list, " ")
}

// word is an event as a text; it must have no fields but those of its kind.
func word(t *testing.T, e api.Event) string {
	t.Helper()
	only := api.Event{Kind: e.Kind}
	told := ""
	data := strings.ReplaceAll(string(e.Data), "\r\n", ".")
	switch e.Kind {
	case api.EvOpened, api.EvHung, api.EvDone:
		only.Conn = e.Conn
		told = fmt.Sprint(map[int]string{api.EvOpened: "O", api.EvHung: "X", api.EvDone: "D"}[e.Kind], e.Conn)
	case api.EvHeard, api.EvSaid:
		only.Conn, only.Data = e.Conn, e.Data
		told = fmt.Sprint(map[int]string{api.EvHeard: "H", api.EvSaid: "S"}[e.Kind], e.Conn, " ", data)
	case api.EvTicked, api.EvDown, api.EvUp:
		only.Now = e.Now
		told = fmt.Sprint(map[int]string{api.EvTicked: "T", api.EvDown: "Down", api.EvUp: "Up"}[e.Kind], e.Now)
	case api.EvRefused:
		only.Conn, only.Code = e.Conn, e.Code
		told = fmt.Sprint("Refused", e.Conn, " ", int(e.Code))
	case api.EvDrains:
		told = "Drains"
	default:
		t.Errorf("an event that may not be: %s", show(e))
	}
	if !reflect.DeepEqual(e, only) {
		t.Errorf("an event has more fields than it should: %s", show(e))
	}
	return told
}

// show cuts what is long, so that a failure can be read.
func show(x any) string {
	text := fmt.Sprintf("%+v", x)
	if len(text) > 900 {
		return text[:900] + ".."
	}
	return text
}

// tells is all that a world tells.
type tells struct {
	up    bool
	now   int
	files []api.File
	conns []int
	jobs  []api.Job
	tubes []api.Tube
	shop  api.Shop
}

func tellsOf(w *World) tells {
	told := tells{up: w.Up(), now: w.Now(), files: ownFiles(w.Files()), jobs: ownJobs(w.Jobs()), shop: w.Shop()}
	told.conns = append(told.conns, w.Conns()...)
	told.tubes = append(told.tubes, w.Tubes()...)
	return told
}

// own are bytes in new memory; no bytes are nil.
func own(b []byte) []byte { return append([]byte(nil), b...) }

func ownFiles(list []api.File) []api.File {
	var files []api.File
	for _, f := range list {
		f.Data = own(f.Data)
		files = append(files, f)
	}
	return files
}

func ownJobs(list []api.Job) []api.Job {
	var jobs []api.Job
	for _, j := range list {
		j.Body = own(j.Body)
		jobs = append(jobs, j)
	}
	return jobs
}

func ownEvents(list []api.Event) []api.Event {
	var events []api.Event
	for _, e := range list {
		e.Data = own(e.Data)
		events = append(events, e)
	}
	return events
}

func sameEvents(x, y []api.Event) bool { return reflect.DeepEqual(ownEvents(x), ownEvents(y)) }

// differ tells what of two tellings is not alike.
func differ(got, want tells) string {
	var list []string
	x, y := reflect.ValueOf(got), reflect.ValueOf(want)
	for i := range x.NumField() {
		a, b := fmt.Sprintf("%+v", x.Field(i)), fmt.Sprintf("%+v", y.Field(i))
		if a != b {
			list = append(list, fmt.Sprintf("%s: %s; want %s", x.Type().Field(i).Name, show(a), show(b)))
		}
	}
	return strings.Join(list, "\n")
}

func wantTells(t *testing.T, what string, w *World, want tells) {
	t.Helper()
	if got := tellsOf(w); !reflect.DeepEqual(got, want) {
		t.Fatalf("%s: it tells %s", what, differ(got, want))
	}
}

func wantInt(t *testing.T, what string, got, want int) {
	t.Helper()
	if got != want {
		t.Errorf("%s: %d; want %d", what, got, want)
	}
}

// bench is a world with a test around it.
type bench struct {
	t *testing.T
	*World
}

// newBench is a new world to which some connections have come.
func newBench(t *testing.T, c api.Config, conns ...int) *bench {
	t.Helper()
	w, err := New(c)
	if w == nil || err != api.OK {
		t.Fatalf("New = %d", err)
	}
	b := &bench{t, w}
	for _, conn := range conns {
		b.step(opens(conn), fmt.Sprint("O", conn))
	}
	return b
}

func (b *bench) clone() *bench { return &bench{b.t, b.Clone()} }

// step does a step, and holds its events against a text.
func (b *bench) step(s api.Step, want string) {
	b.t.Helper()
	if got := words(b.t, b.Step(s)); got != want {
		b.t.Errorf("%s: %s; want %s", show(s), show(got), show(want))
	}
}

// feed lets bytes come (line ends are points), and holds the events behind that against a text.
func (b *bench) feed(conn int, s, want string) {
	b.t.Helper()
	events := b.Step(feeds(conn, s))
	heard := api.Event{Kind: api.EvHeard, Conn: conn, Data: text(s)}
	if len(events) == 0 || !sameEvents(events[:1], []api.Event{heard}) {
		b.t.Fatalf("%d says %q: %s", conn, s, show(words(b.t, events)))
	}
	if got := words(b.t, events[1:]); got != want {
		b.t.Errorf("%d says %q: %s; want %s", conn, s, show(got), show(want))
	}
}

// refused does a step that has to be refused, and must change nothing.
func (b *bench) refused(s api.Step, code api.Errno) {
	b.t.Helper()
	before := tellsOf(b.World)
	b.step(s, fmt.Sprint("Refused", s.Conn, " ", int(code)))
	wantTells(b.t, show(s), b.World, before)
}

// again crashes, starts, and lets connections come anew.
func (b *bench) again(conns ...int) {
	b.t.Helper()
	b.step(crashes(), fmt.Sprint("Down", b.Now()))
	b.step(starts, fmt.Sprint("Up", b.Now()))
	for _, conn := range conns {
		b.step(opens(conn), fmt.Sprint("O", conn))
	}
}

// jobs holds the jobs against a text: of each its id, the first letter of its state (r, d, R, b), and its body.
func (b *bench) jobs(want string) {
	b.t.Helper()
	var list []string
	for _, j := range b.Jobs() {
		list = append(list, fmt.Sprint(j.Id, []string{"?", "r", "d", "R", "b"}[j.State], string(j.Body)))
	}
	if got := strings.Join(list, " "); got != want {
		b.t.Errorf("the jobs are %s; want %s", got, want)
	}
}

// sizes holds the numbers of the files, how many bytes each has, and how many are safe, against a text.
func (b *bench) sizes(want string) {
	b.t.Helper()
	var list []string
	for _, f := range b.Files() {
		list = append(list, fmt.Sprint(f.Num, ":", len(f.Data), "/", f.Safe))
	}
	if got := strings.Join(list, " "); got != want {
		b.t.Errorf("the files are %s; want %s", got, want)
	}
}
