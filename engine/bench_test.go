package engine

import (
	"fmt"
	"math"
	"reflect"
	"slices"
	"strings"
	"testing"

	"stint/answers"
	"stint/api"
	"stint/disk"
	"stint/frame"
	"stint/ledger"
	"stint/record"
	"stint/verbs"
)

var (
	wide  = api.Config{JobMax: 65535, Segment: 4096, Quota: 65536}
	small = api.Config{JobMax: 100, Segment: 256, Quota: 1024}
)

// Numbers that no connection has; some of them are right if their upper bits are lost.
var wrongConns = []int{math.MinInt, math.MinInt + 1, -1 << 32, -64, -63, -2, -1, 64, 65, 128 + 1, 256 + 1, 1<<32 + 1, 1<<62 + 1, math.MaxInt}

// cmd is a command as a line, without a put's count of bytes, and with its body.
func cmd(line string, body ...string) api.Cmd {
	text := strings.Join(body, "")
	if strings.HasPrefix(line, "put ") {
		line += fmt.Sprint(" ", len(text))
	}
	c, err := verbs.Parse(line)
	if err != api.OK {
		panic(fmt.Sprintf("%s is no command: %d", line, err))
	}
	if text != "" {
		c.Body = []byte(text)
	}
	return c
}

// told is an act, or what is said, as a text.
func told(t *testing.T, x api.Out) string {
	t.Helper()
	switch x.Kind {
	case api.OutAct:
		if !reflect.DeepEqual(x, api.Out{Kind: api.OutAct, Act: x.Act}) {
			t.Errorf("an act has more fields than it should: %s", show(x))
		}
		return toldAct(x.Act)
	case api.OutSay:
		if !reflect.DeepEqual(x, api.Out{Kind: api.OutSay, Conn: x.Conn, Reply: x.Reply}) {
			t.Errorf("what is said has more fields than it should: %s", show(x))
		}
		data, err := answers.Put(x.Reply)
		if err != api.OK {
			t.Errorf("%s is no reply: %d", show(x.Reply), err)
		}
		text := strings.TrimSuffix(strings.ReplaceAll(string(data), "\r\n", " "), " ")
		return fmt.Sprint(x.Conn, ": ", text)
	}
	t.Errorf("an out that may not be: %s", show(x))
	return ""
}

func toldAct(a api.Act) string {
	verb := []string{"?", "create", "append", "sync", "cut", "remove"}[a.Kind]
	return fmt.Sprint(verb, " ", a.File)
}

func toldAll(t *testing.T, outs []api.Out) []string {
	t.Helper()
	var list []string
	for _, x := range outs {
		list = append(list, told(t, x))
	}
	return list
}

// parts are the acts of some outs and what is said, which stands behind all of them.
func parts(t *testing.T, outs []api.Out) (acts, says []api.Out) {
	t.Helper()
	for _, x := range outs {
		if x.Kind == api.OutAct {
			if len(says) > 0 {
				t.Errorf("an act behind what is said: %s", show(outs))
			}
			acts = append(acts, x)
		} else {
			says = append(says, x)
		}
	}
	return acts, says
}

// show cuts what is long, so that a failure can be read.
func show(x any) string {
	text := fmt.Sprintf("%+v", x)
	if len(text) > 1500 {
		return text[:1500] + ".."
	}
	return text
}

// tells is all that an engine tells.
type tells struct {
	now    int
	jobs   []api.Job
	stored []api.Stored
	tubes  []api.Tube
	seats  []api.Seat
	shop   api.Shop
	waits  []int
}

// ownJobs are jobs with bodies of their own; one that is none is nil.
func ownJobs(list []api.Job) []api.Job {
	var own []api.Job
	for _, j := range list {
		j.Body = append([]byte(nil), j.Body...)
		own = append(own, j)
	}
	return own
}

func ownStored(list []api.Stored) []api.Stored {
	var own []api.Stored
	for _, j := range list {
		j.Body = append([]byte(nil), j.Body...)
		own = append(own, j)
	}
	return own
}

func tellsOf(e *Engine) tells {
	told := tells{now: e.Now(), jobs: ownJobs(e.Jobs()), stored: ownStored(e.Stored()), shop: e.Shop()}
	told.tubes = append(told.tubes, e.Tubes()...)
	told.seats = append(told.seats, e.Seats()...)
	for conn := range api.MaxSeats {
		if e.Waits(conn) {
			told.waits = append(told.waits, conn)
		}
	}
	for _, conn := range wrongConns {
		if e.Waits(conn) {
			told.waits = append(told.waits, conn)
		}
	}
	return told
}

// differ tells what of two tellings is not alike.
func differ(got, want tells) string {
	var list []string
	x, y := reflect.ValueOf(got), reflect.ValueOf(want)
	for i := range x.NumField() {
		a, b := fmt.Sprintf("%+v", x.Field(i)), fmt.Sprintf("%+v", y.Field(i))
		if a != b {
			list = append(list, fmt.Sprintf("%s: %s; want %s", x.Type().Field(i).Name, show(a), show(b)))
		}
	}
	return strings.Join(list, "\n")
}

func wantTells(t *testing.T, e *Engine, want tells) {
	t.Helper()
	if got := tellsOf(e); !reflect.DeepEqual(got, want) {
		t.Errorf("it tells %s", differ(got, want))
	}
}

func wantErr(t *testing.T, got, want api.Errno) {
	t.Helper()
	if got != want {
		t.Errorf("it answers %d; want %d", got, want)
	}
}

func wantInt(t *testing.T, got, want int) {
	t.Helper()
	if got != want {
		t.Errorf("it tells %d; want %d", got, want)
	}
}

// bench is an engine with the disk to which its acts are done.
type bench struct {
	t *testing.T
	e *Engine
	d *disk.Disk
}

func newBench(t *testing.T, c api.Config, now int, conns ...int) *bench {
	t.Helper()
	e, acts, err := New(c, now)
	if err != api.OK {
		t.Fatalf("New = %d", err)
	}
	d, _ := disk.New(c.Quota)
	b := &bench{t, e, d}
	b.acts(acts)
	b.join(conns...)
	return b
}

// reopen is a bench with an engine that is opened with what the disk has.
func (b *bench) reopen(now int, conns ...int) *bench {
	b.t.Helper()
	e, acts, err := Open(b.e.config, now, b.d.Files())
	if err != api.OK {
		b.t.Fatalf("Open = %d", err)
	}
	c := &bench{b.t, e, b.d.Clone()}
	c.acts(acts)
	c.join(conns...)
	return c
}

func (b *bench) clone() *bench { return &bench{b.t, b.e.Clone(), b.d.Clone()} }

func (b *bench) join(conns ...int) {
	b.t.Helper()
	for _, conn := range conns {
		if err := b.e.Join(conn); err != api.OK {
			b.t.Fatalf("Join(%d) = %d", conn, err)
		}
	}
}

func (b *bench) acts(acts []api.Act) {
	b.t.Helper()
	for _, a := range acts {
		if err := b.d.Do(a); err != api.OK {
			b.t.Fatalf("the disk refuses %s: %d", toldAct(a), err)
		}
	}
}

// done does the acts of some outs, and looks at what must always be so.
func (b *bench) done(outs []api.Out) []api.Out {
	b.t.Helper()
	acts, says := parts(b.t, outs)
	for _, x := range acts {
		b.acts([]api.Act{x.Act})
	}
	wantRight(b.t, b.e)
	return says
}

// all does a command, and holds all that comes of it against texts.
func (b *bench) all(conn int, c api.Cmd, want ...string) {
	b.t.Helper()
	outs, err := b.e.Do(conn, c)
	if err != api.OK {
		b.t.Fatalf("Do(%d, %s) = %d", conn, show(c), err)
	}
	b.done(outs)
	if got := toldAll(b.t, outs); !slices.Equal(got, want) {
		b.t.Errorf("Do(%d, %s): %s; want %s", conn, show(c), show(got), show(want))
	}
}

// says does a command, and holds what is said against texts.
func (b *bench) says(conn int, c api.Cmd, want ...string) {
	b.t.Helper()
	outs, err := b.e.Do(conn, c)
	if err != api.OK {
		b.t.Fatalf("Do(%d, %s) = %d", conn, show(c), err)
	}
	if got := toldAll(b.t, b.done(outs)); !slices.Equal(got, want) {
		b.t.Errorf("Do(%d, %s): %s; want %s", conn, show(c), show(got), show(want))
	}
}

// do does commands of a connection, whatever is said.
func (b *bench) do(conn int, lines ...string) {
	b.t.Helper()
	for _, line := range lines {
		outs, err := b.e.Do(conn, cmd(line))
		if err != api.OK {
			b.t.Fatalf("Do(%d, %s) = %d", conn, line, err)
		}
		b.done(outs)
	}
}

// refused does a command that changes nothing but how often it was done, and the notes.
func (b *bench) refused(conn int, c api.Cmd, want string) {
	b.t.Helper()
	before := tellsOf(b.e)
	b.all(conn, c, fmt.Sprint(conn, ": ", want))
	before.shop.Done[c.Kind]++
	noted(&before, conn, c.Kind)
	wantTells(b.t, b.e, before)
}

// noted notes in a telling who puts and who takes.
func noted(x *tells, conn, kind int) {
	for i := range x.seats {
		s := &x.seats[i]
		if s.Num != conn {
			continue
		}
		if kind == api.CmdPut && !s.Puts {
			s.Puts = true
			x.shop.Producers++
		}
		if kind >= api.CmdReserve && kind <= api.CmdReserveJob && !s.Takes {
			s.Takes = true
			x.shop.Workers++
		}
	}
}

// tick lets ticks go by, of which all but the last one say nothing, and write nothing.
func (b *bench) tick(n int, want ...string) {
	b.t.Helper()
	for i := range n {
		outs := b.e.Tick()
		b.done(outs)
		got := toldAll(b.t, outs)
		if i < n-1 && len(got) > 0 {
			b.t.Errorf("the tick to %d: %s; want none", b.e.Now(), show(got))
		} else if i == n-1 && !slices.Equal(got, want) {
			b.t.Errorf("the tick to %d: %s; want %s", b.e.Now(), show(got), show(want))
		}
	}
}

func (b *bench) leave(conn int, want ...string) {
	b.t.Helper()
	outs, err := b.e.Leave(conn)
	if err != api.OK {
		b.t.Fatalf("Leave(%d) = %d", conn, err)
	}
	b.done(outs)
	if got := toldAll(b.t, outs); !slices.Equal(got, want) {
		b.t.Errorf("Leave(%d): %s; want %s", conn, show(got), show(want))
	}
}

// job is a job that is there.
func (b *bench) job(id int) api.Job {
	b.t.Helper()
	for _, j := range b.e.Jobs() {
		if j.Id == id {
			return j
		}
	}
	b.t.Errorf("there is no job %d", id)
	return api.Job{}
}

func (b *bench) stored(id int) api.Stored {
	b.t.Helper()
	for _, j := range b.e.Stored() {
		if j.Id == id {
			return j
		}
	}
	b.t.Errorf("the job %d is not stored", id)
	return api.Stored{}
}

// wantJob holds a job that is there against what it should be, wantStored one that is stored.
func (b *bench) wantJob(want api.Job) {
	b.t.Helper()
	if got := b.job(want.Id); !reflect.DeepEqual(ownJobs([]api.Job{got}), ownJobs([]api.Job{want})) {
		b.t.Errorf("the job is %s; want %s", show(got), show(want))
	}
}

func (b *bench) wantStored(want api.Stored) {
	b.t.Helper()
	if got := b.stored(want.Id); !reflect.DeepEqual(ownStored([]api.Stored{got}), ownStored([]api.Stored{want})) {
		b.t.Errorf("it is stored as %s; want %s", show(got), show(want))
	}
}

// wantStates tells the states of all jobs, by their ids: r(eady), d(elayed), R(eserved), b(uried).
func (b *bench) wantStates(want string) {
	b.t.Helper()
	got := ""
	for _, j := range b.e.Jobs() {
		got += fmt.Sprint(j.Id, "?rdRb"[j.State:j.State+1], " ")
	}
	if strings.TrimSpace(got) != want {
		b.t.Errorf("the states are %s; want %s", got, want)
	}
}

func (b *bench) tube(name string) api.Tube {
	b.t.Helper()
	for _, x := range b.e.Tubes() {
		if x.Name == name {
			return x
		}
	}
	b.t.Errorf("there is no tube %s", name)
	return api.Tube{}
}

func (b *bench) wantTube(want api.Tube) {
	b.t.Helper()
	if got := b.tube(want.Name); got != want {
		b.t.Errorf("the tube is %+v; want %+v", got, want)
	}
}

// wantTubes tells the names of the tubes that are there.
func (b *bench) wantTubes(want ...string) {
	b.t.Helper()
	var got []string
	for _, x := range b.e.Tubes() {
		got = append(got, x.Name)
	}
	if !slices.Equal(got, want) {
		b.t.Errorf("the tubes are %q; want %q", got, want)
	}
	wantInt(b.t, b.e.Shop().Tubes, len(want))
}

func (b *bench) seat(conn int) api.Seat {
	b.t.Helper()
	for _, s := range b.e.Seats() {
		if s.Num == conn {
			return s
		}
	}
	b.t.Errorf("there is no connection %d", conn)
	return api.Seat{}
}

// noRoom puts jobs of a connection until there is no room for one more change.
func (b *bench) noRoom(conn int) {
	b.t.Helper()
	for room := b.e.Shop().Room; room >= 97; room = b.e.Shop().Room {
		size := max(0, min(room-114-25-164-len(b.seat(conn).Used), 60))
		outs, err := b.e.Do(conn, cmd("put 4000000000 0 1000", strings.Repeat("f", size)))
		if err != api.OK {
			b.t.Fatalf("Do = %d", err)
		}
		if says := b.done(outs); says[len(says)-1].Reply.Kind == api.RepNoMemory {
			b.fill(conn)
			return
		}
	}
}

// fill lets short records come till there is room for none.
func (b *bench) fill(conn int) {
	b.t.Helper()
	for b.e.Shop().Room >= 97 {
		outs, _ := b.e.Do(conn, cmd("reserve-with-timeout 0"))
		b.done(outs)
		id := outs[0].Reply.Id
		outs, _ = b.e.Do(conn, cmd(fmt.Sprint("release ", id, " 4000000000 0")))
		b.done(outs)
	}
}

// filesOf are the files of a ledger with stored jobs, which are given the ids 1, 2 ..; buried ones with their Orders.
func filesOf(t *testing.T, c api.Config, list ...api.Stored) []api.File {
	t.Helper()
	l, acts, err := ledger.New(c)
	d, _ := disk.New(c.Quota)
	do := func(acts []api.Act, err api.Errno) {
		t.Helper()
		if err != api.OK {
			t.Fatalf("the ledger answers %d", err)
		}
		for _, a := range acts {
			if err := d.Do(a); err != api.OK {
				t.Fatalf("the disk answers %d", err)
			}
		}
	}
	do(acts, err)
	for _, j := range list {
		first := j
		if j.State == api.Buried {
			first.State, first.Order = api.Ready, 0
		}
		id, acts, err := l.Put(first)
		do(acts, err)
		if j.State == api.Buried {
			j.Id = id
			do(l.Bury(j))
		}
	}
	return d.Files()
}

// opened is a bench of an engine that is opened with stored jobs.
func opened(t *testing.T, c api.Config, now int, list ...api.Stored) *bench {
	t.Helper()
	files := filesOf(t, c, list...)
	e, acts, err := Open(c, now, files)
	if err != api.OK {
		t.Fatalf("Open = %d", err)
	}
	d, _ := disk.Load(c.Quota, files)
	b := &bench{t, e, d}
	b.acts(acts)
	return b
}

// wantRight is P17.20, P17.21 and P17.22 of an engine as it stands.
func wantRight(t *testing.T, e *Engine) {
	t.Helper()
	now, jobs, stored, seats := e.Now(), e.Jobs(), e.Stored(), e.Seats()
	if len(jobs) != len(stored) {
		t.Errorf("%d jobs are there, and %d are stored", len(jobs), len(stored))
		return
	}
	for i, j := range jobs {
		if i > 0 && jobs[i-1].Id >= j.Id {
			t.Errorf("the ids do not rise")
		}
		wantRightJob(t, now, j, seats)
		wantRightStored(t, now, j, stored[i])
	}
	paused := map[string]int{}
	for _, x := range e.Tubes() {
		if x.Until > now {
			paused[x.Name] = x.Until
		}
	}
	for _, s := range seats {
		if s.Waits {
			wantRightWait(t, now, s, jobs, paused)
		}
	}
}

func wantRightJob(t *testing.T, now int, j api.Job, seats []api.Seat) {
	t.Helper()
	held := slices.ContainsFunc(seats, func(s api.Seat) bool { return s.Num == j.Holder })
	timed := j.State == api.Delayed || j.State == api.Reserved
	if j.State < 1 || j.State > 4 || held != (j.State == api.Reserved) || !held && j.Holder != -1 ||
		timed != (j.Due > now) || !timed && j.Due != 0 || (j.Order > 0) != (j.State == api.Buried) {
		t.Errorf("at %d a job may not be so: %s", now, show(j))
	}
}

func wantRightStored(t *testing.T, now int, j api.Job, s api.Stored) {
	t.Helper()
	if j.Id != s.Id || j.Tube != s.Tube || string(j.Body) != string(s.Body) || j.TTR != s.TTR || j.Born != s.Born || j.Pri != s.Pri || j.Delay != s.Delay {
		t.Errorf("at %d the job %s is stored as %s", now, show(j), show(s))
	}
	right := false
	switch {
	case s.State == api.Buried:
		right = j.State == api.Buried && j.Order == s.Order
	case s.State == api.Delayed && s.Due > now:
		right = j.State == api.Delayed && j.Due == s.Due
	default:
		right = j.State == api.Ready || j.State == api.Reserved
	}
	if !right {
		t.Errorf("at %d the job %s is stored as %s", now, show(j), show(s))
	}
}

func wantRightWait(t *testing.T, now int, s api.Seat, jobs []api.Job, paused map[string]int) {
	t.Helper()
	if s.Until != -1 && s.Until <= now {
		t.Errorf("at %d %d waits until %d", now, s.Num, s.Until)
	}
	for _, j := range jobs {
		if j.State == api.Ready && slices.Contains(s.Watched, j.Tube) && paused[j.Tube] == 0 {
			t.Errorf("at %d %d waits, and could have %s", now, s.Num, show(j))
		}
		if j.State == api.Reserved && j.Holder == s.Num && j.Due <= now+1 {
			t.Errorf("at %d %d waits, and holds %s", now, s.Num, show(j))
		}
	}
}

// headOf are the bytes of a file that has nothing but its head.
func headOf(t *testing.T, num, next int) []byte {
	t.Helper()
	payload, err := record.Put(api.Record{Kind: api.RecHead, File: num, Next: next})
	if err != api.OK {
		t.Fatalf("Put = %d", err)
	}
	data, err := frame.Make(num, 0, payload)
	if err != api.OK {
		t.Fatalf("Make = %d", err)
	}
	return data
}
