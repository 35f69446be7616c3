package yard

import (
	"fmt"
	"math"
	"reflect"
	"slices"
	"strings"
	"testing"

	"stint/api"
)

// Numbers that are no ids; some of them are right if their upper bits are lost.
var wrongIds = []int{math.MinInt, math.MinInt + 1, -1 << 40, -2, -1, 0, api.MaxId + 1, api.MaxId + 2, 1 << 41, 1<<62 + 1, math.MaxInt}

// Numbers that are no states; some of them are right if their upper bits are lost.
var wrongStates = []int{math.MinInt, math.MinInt + 1, -4, -3, -2, -1, 0, 5, 6, 7, 8, 1<<8 + 1, 1<<32 + 1, 1<<62 + 2, math.MaxInt}

// Numbers that are far from one another, rising.
var farNumbers = []int{math.MinInt, math.MinInt + 1, -1 << 40, -2, -1, 0, 1, 1023, 1024, 1 << 32, 1 << 40, 1<<62 - 1, 1 << 62, math.MaxInt - 1, math.MaxInt}

func ready(id int, tube string, pri int) api.Job {
	return api.Job{Id: id, Pri: pri, TTR: 1, State: api.Ready, Holder: -1, Tube: tube, Body: []byte("x")}
}

func delayed(id int, tube string, due int) api.Job {
	return api.Job{Id: id, TTR: 1, State: api.Delayed, Due: due, Holder: -1, Tube: tube, Body: []byte("x")}
}

func reserved(id int, tube string, due, holder int) api.Job {
	return api.Job{Id: id, TTR: 1, State: api.Reserved, Due: due, Holder: holder, Tube: tube, Body: []byte("x")}
}

func buried(id int, tube string, order int) api.Job {
	return api.Job{Id: id, TTR: 1, State: api.Buried, Order: order, Holder: -1, Tube: tube, Body: []byte("x")}
}

// each is a job of each state.
func each(id int, tube string) []api.Job {
	return []api.Job{ready(id, tube, 3), delayed(id, tube, 5), reserved(id, tube, 6, 2), buried(id, tube, 4)}
}

func withPri(j api.Job, pri int) api.Job {
	j.Pri = pri
	return j
}

// ownBody is a job with a body of its own; one that is none is nil.
func ownBody(j api.Job) api.Job {
	j.Body = append([]byte(nil), j.Body...)
	return j
}

func ownBodies(list []api.Job) []api.Job {
	var own []api.Job
	for _, j := range list {
		own = append(own, ownBody(j))
	}
	return own
}

// tells is all that a yard tells: of its tubes, of some more, of all connections, and of some clocks.
type tells struct {
	jobs  []api.Job
	tubes []string
	all   api.Sums
	of    []string
}

// clocksOf are the clocks at which what is over may change.
func clocksOf(jobs []api.Job) []int {
	clocks := []int{math.MinInt, -1, 0, math.MaxInt}
	for _, j := range jobs {
		if j.Due > 0 {
			clocks = append(clocks, j.Due-1, j.Due)
		}
	}
	slices.Sort(clocks)
	return slices.Compact(clocks)
}

// Tubes and connections that may have no jobs.
var (
	moreTubes = []string{"", "a", "b", "A", "a\x00", "aa", "none"}
	moreConns = []int{math.MinInt, -2, -1, 64, 65, math.MaxInt}
)

func tellsOf(y *Yard) tells {
	s := tells{jobs: ownBodies(y.Jobs()), tubes: append([]string(nil), y.Tubes()...), all: y.All()}
	for _, tube := range append(moreTubes, s.tubes...) {
		s.of = append(s.of, fmt.Sprintf("%q: %d %d %d %+v", tube, y.Ready(tube), y.Soonest(tube), y.Eldest(tube), y.Sums(tube)))
	}
	for conn := range api.MaxSeats {
		s.of = append(s.of, fmt.Sprintf("%d holds %v", conn, y.Held(conn)))
	}
	for _, conn := range moreConns {
		s.of = append(s.of, fmt.Sprintf("%d holds %v", conn, y.Held(conn)))
	}
	for _, now := range clocksOf(s.jobs) {
		d, r := y.Over(now)
		s.of = append(s.of, fmt.Sprintf("over at %d: %v %v", now, d, r))
	}
	return s
}

// show cuts what is long, so that a failure can be read.
func show(x any) string {
	text := fmt.Sprintf("%+v", x)
	if len(text) > 1500 {
		return text[:1500] + ".."
	}
	return text
}

func wantTells(t *testing.T, y *Yard, want tells) {
	t.Helper()
	got := tellsOf(y)
	for i, line := range got.of {
		if i < len(want.of) && line != want.of[i] {
			t.Errorf("it tells %s; want %s", line, want.of[i])
		}
	}
	if !reflect.DeepEqual(got, want) {
		t.Errorf("it tells %s; want %s", show(got), show(want))
	}
}

func wantErr(t *testing.T, got, want api.Errno) {
	t.Helper()
	if got != want {
		t.Errorf("it answers %d; want %d", got, want)
	}
}

func wantIds(t *testing.T, got []int, want ...int) {
	t.Helper()
	if !slices.Equal(got, want) {
		t.Errorf("the ids are %v; want %v", got, want)
	}
}

func wantId(t *testing.T, got, want int) {
	t.Helper()
	if got != want {
		t.Errorf("the id is %d; want %d", got, want)
	}
}

func wantOver(t *testing.T, y *Yard, now int, delayed, reserved []int) {
	t.Helper()
	d, r := y.Over(now)
	if !slices.Equal(d, delayed) || !slices.Equal(r, reserved) {
		t.Errorf("Over(%d) = %v, %v; want %v, %v", now, d, r, delayed, reserved)
	}
}

func wantSums(t *testing.T, got, want api.Sums) {
	t.Helper()
	if got != want {
		t.Errorf("the sums are %+v; want %+v", got, want)
	}
}

func wantTubes(t *testing.T, y *Yard, want ...string) {
	t.Helper()
	if got := y.Tubes(); !slices.Equal(got, want) {
		t.Errorf("Tubes() = %q; want %q", got, want)
	}
}

func wantJob(t *testing.T, y *Yard, want api.Job) {
	t.Helper()
	if got, there := y.Get(want.Id); !there || !reflect.DeepEqual(ownBody(got), ownBody(want)) {
		t.Errorf("Get(%d) = %s, %v; want %s", want.Id, show(got), there, show(want))
	}
}

func wantNone(t *testing.T, y *Yard, id int) {
	t.Helper()
	if got, there := y.Get(id); there || !reflect.DeepEqual(ownBody(got), api.Job{}) {
		t.Errorf("Get(%d) = %s, %v; want none", id, show(got), there)
	}
}

// wantRefused does a call that must be refused, and must change nothing.
func wantRefused(t *testing.T, y *Yard, want api.Errno, call func(y *Yard) api.Errno) {
	t.Helper()
	before := tellsOf(y)
	wantErr(t, call(y), want)
	wantTells(t, y, before)
}

func addOf(j api.Job) func(y *Yard) api.Errno {
	return func(y *Yard) api.Errno { return y.Add(j) }
}

func setOf(j api.Job) func(y *Yard) api.Errno {
	return func(y *Yard) api.Errno { return y.Set(j) }
}

func deleteOf(id int) func(y *Yard) api.Errno {
	return func(y *Yard) api.Errno { return y.Delete(id) }
}

// with is a yard of these jobs.
func with(t *testing.T, jobs ...api.Job) *Yard {
	t.Helper()
	y := New()
	for _, j := range jobs {
		if err := y.Add(j); err != api.OK {
			t.Fatalf("Add(%s) = %d", show(j), err)
		}
	}
	return y
}

// set makes jobs others, which must not be refused.
func set(t *testing.T, y *Yard, jobs ...api.Job) {
	t.Helper()
	for _, j := range jobs {
		if err := y.Set(j); err != api.OK {
			t.Fatalf("Set(%s) = %d", show(j), err)
		}
	}
}

// some is a yard with jobs of all states, in two tubes.
func some(t *testing.T) *Yard {
	t.Helper()
	return with(t, ready(1, "a", 5), ready(2, "a", 1024), delayed(3, "a", 7), reserved(4, "a", 9, 4), buried(5, "a", 2),
		ready(6, "b", 0), delayed(7, "b", 6), reserved(8, "b", 6, 4), reserved(9, "b", 7, 0), buried(10, "b", 1))
}

// The chapter's examples, line by line.
func TestExamples(t *testing.T) {
	y := New()
	wantErr(t, y.Add(ready(1, "a", 5)), api.OK)
	wantErr(t, y.Add(ready(2, "a", 3)), api.OK)
	wantErr(t, y.Add(ready(3, "a", 3)), api.OK)
	wantId(t, y.Ready("a"), 2)
	wantId(t, y.Ready("b"), 0)

	wantErr(t, y.Add(ready(1, "a", 0)), api.ErrYardId)
	wantErr(t, y.Add(ready(0, "a", 0)), api.ErrYardId)
	wantErr(t, y.Add(api.Job{Id: 4, State: 5, Holder: -1, Tube: "a"}), api.ErrYardState)
	wantErr(t, y.Add(api.Job{Id: 4, State: api.Ready, Due: 7, Holder: -1, Tube: "a"}), api.ErrYardField)
	wantErr(t, y.Add(reserved(4, "a", 7, -1)), api.ErrYardField)

	wantErr(t, y.Set(withPri(reserved(2, "a", 9, 4), 3)), api.OK)
	wantId(t, y.Ready("a"), 3)
	wantIds(t, y.Held(4), 2)
	wantIds(t, y.Held(0))

	wantErr(t, y.Set(ready(3, "b", 3)), api.ErrYardField)
	wantErr(t, y.Set(ready(9, "a", 0)), api.ErrYardId)

	wantErr(t, y.Set(withPri(delayed(3, "a", 9), 3)), api.OK)
	wantErr(t, y.Add(delayed(5, "a", 8)), api.OK)
	wantId(t, y.Soonest("a"), 5)
	wantOver(t, y, 8, []int{5}, nil)
	wantOver(t, y, 9, []int{5, 3}, []int{2})

	wantErr(t, y.Set(buried(5, "a", 2)), api.OK)
	wantErr(t, y.Set(buried(3, "a", 1)), api.OK)
	wantId(t, y.Eldest("a"), 3)
	wantSums(t, y.Sums("a"), api.Sums{Ready: 1, Reserved: 1, Buried: 2, Urgent: 1})

	wantErr(t, y.Delete(3), api.OK)
	wantErr(t, y.Delete(3), api.ErrYardId)
	wantId(t, y.Eldest("a"), 5)
	wantTubes(t, y, "a")

	wantErr(t, y.Add(ready(6, "b", 1024)), api.OK)
	wantSums(t, y.All(), api.Sums{Ready: 2, Reserved: 1, Buried: 1, Urgent: 1})
	wantTubes(t, y, "a", "b")
	wantJob(t, y, ready(6, "b", 1024))
}

// P15.1: a new yard has nothing, and nothing in common with another one.
func TestNew(t *testing.T) {
	y, other := New(), New()
	if y == nil || other == nil {
		t.Fatal("New() is nil")
	}
	before := tellsOf(y)
	if len(before.jobs) != 0 || len(before.tubes) != 0 || before.all != (api.Sums{}) {
		t.Errorf("a new yard tells %s", show(before))
	}
	wantOver(t, y, math.MaxInt, nil, nil)
	for _, id := range append(wrongIds, 1, 2, api.MaxId) {
		wantNone(t, y, id)
		wantRefused(t, y, api.ErrYardId, deleteOf(id))
		wantRefused(t, y, api.ErrYardId, setOf(ready(id, "a", 1)))
	}
	for i, j := range each(1, "a") {
		j.Id += i
		wantErr(t, other.Add(j), api.OK)
	}
	wantTells(t, y, before)
}

// P15.2: a job that was added is there, in whatever state.
func TestAdd(t *testing.T) {
	for i, j := range each(7, "mail") {
		y := with(t, j)
		wantJob(t, y, j)
		if got := y.Jobs(); !reflect.DeepEqual(got, []api.Job{j}) {
			t.Errorf("Jobs() = %s; want %s alone", show(got), show(j))
		}
		wantTubes(t, y, "mail")
		wantIds(t, []int{y.Ready("mail"), y.Soonest("mail"), y.Eldest("mail")}, []int{7 * b(i == 0), 7 * b(i == 1), 7 * b(i == 3)}...)
		sums := api.Sums{Ready: b(i == 0), Delayed: b(i == 1), Reserved: b(i == 2), Buried: b(i == 3), Urgent: b(i == 0)}
		wantSums(t, y.Sums("mail"), sums)
		wantSums(t, y.All(), sums)
	}
}

// b is 1 of true, 0 of false.
func b(is bool) int {
	if is {
		return 1
	}
	return 0
}

// P15.2: which ids there may be, and each once, whatever state and tube the other one has.
func TestAddIds(t *testing.T) {
	y := some(t)
	for _, id := range wrongIds {
		for _, j := range each(id, "a") {
			wantRefused(t, y, api.ErrYardId, addOf(j))
		}
		wantNone(t, y, id)
	}
	for id := 1; id <= 10; id++ {
		for _, tube := range []string{"a", "b", "c"} {
			for _, j := range each(id, tube) {
				wantRefused(t, y, api.ErrYardId, addOf(j))
			}
		}
	}
	for _, id := range []int{11, 1 << 32, 1<<32 + 1, api.MaxId - 1, api.MaxId} {
		wantErr(t, y.Add(ready(id, "a", 1)), api.OK)
		wantJob(t, y, ready(id, "a", 1))
		wantRefused(t, y, api.ErrYardId, addOf(ready(id, "a", 1)))
	}
}

// P15.2: what was deleted may be added again, as another one.
func TestAddAgain(t *testing.T) {
	for _, old := range each(3, "a") {
		for _, j := range each(3, "b") {
			y := with(t, old)
			wantErr(t, y.Delete(3), api.OK)
			j.TTR, j.Born, j.Body = 8, 9, []byte("another")
			wantErr(t, y.Add(j), api.OK)
			wantTells(t, y, tellsOf(with(t, j)))
		}
	}
}

// P15.2, P15.3: which states there may be.
func TestStates(t *testing.T) {
	y := some(t)
	for _, state := range wrongStates {
		for _, j := range append(each(20, "a"), each(21, "c")...) {
			j.State = state
			wantRefused(t, y, api.ErrYardState, addOf(j))
		}
		for id := 1; id <= 5; id++ {
			for _, j := range each(id, "a") {
				j.State = state
				wantRefused(t, y, api.ErrYardState, setOf(j))
			}
		}
	}
}

// spoilt are jobs of which one field does not fit, made of one whose fields do.
func spoilt(j api.Job) []api.Job {
	var list []api.Job
	wrong := func(field *int, numbers ...int) {
		right := *field
		for _, n := range numbers {
			*field = n
			list = append(list, j)
		}
		*field = right
	}
	below := []int{math.MinInt, math.MinInt + 1, -1 << 32, -2, -1, 0}
	other := []int{math.MinInt, -1 << 32, -2, -1, 1, 2, 63, 1 << 32, 1 << 62, math.MaxInt}
	if j.State == api.Reserved {
		wrong(&j.Holder, math.MinInt, math.MinInt+1, -65, -64, -2, -1, 64, 65, 128, 256, 1<<32, 1<<32+1, math.MaxInt)
	} else {
		wrong(&j.Holder, math.MinInt, -3, -2, 0, 1, 2, 63, 64, 1<<32-1, math.MaxInt)
	}
	if j.State == api.Delayed || j.State == api.Reserved {
		wrong(&j.Due, below...)
	} else {
		wrong(&j.Due, other...)
	}
	if j.State == api.Buried {
		wrong(&j.Order, below...)
	} else {
		wrong(&j.Order, other...)
	}
	for _, tube := range []string{"", strings.Repeat("t", 201), strings.Repeat("t", 202), strings.Repeat("é", 101), strings.Repeat("t", 456)} {
		k := j
		k.Tube = tube
		list = append(list, k)
	}
	for _, size := range []int{65536, 65537, 70000, 1 << 17} {
		k := j
		k.Body = make([]byte, size)
		list = append(list, k)
	}
	return list
}

// P15.2: a field that does not fit its state, each by itself.
func TestAddFields(t *testing.T) {
	y := some(t)
	for _, j := range each(20, "a") {
		for _, k := range spoilt(j) {
			wantRefused(t, y, api.ErrYardField, addOf(k))
		}
		wantErr(t, y.Add(j), api.OK)
		wantErr(t, y.Delete(20), api.OK)
	}
}

// rightFields are jobs whose fields are at their edges.
func rightFields() []api.Job {
	var list []api.Job
	for _, n := range []int{1, 2, 1 << 32, 1 << 40, 1 << 62, math.MaxInt - 1, math.MaxInt} {
		list = append(list, delayed(1, "a", n), reserved(1, "a", n, 0), buried(1, "a", n))
	}
	for conn := range 64 {
		list = append(list, reserved(1, "a", 5, conn))
	}
	for _, n := range farNumbers {
		for _, j := range each(1, "a") {
			j.Pri, j.Delay, j.TTR, j.Born = n, n-1, n+1, n-2
			j.Counts = api.Counts{Reserves: n, Timeouts: n + 1, Releases: n + 2, Buries: n + 3, Kicks: n + 4}
			list = append(list, j)
		}
	}
	return list
}

// P15.2: fields at their edges.
func TestAddRightFields(t *testing.T) {
	for _, j := range rightFields() {
		wantJob(t, with(t, j), j)
	}
}

// P15.2: names of any bytes, of 1 to 200, and bodies of any bytes, of none to 65535.
func TestAddTexts(t *testing.T) {
	every := make([]byte, 65535)
	for i := range every {
		every[i] = byte(i)
	}
	tubes := []string{"a", "-", " ", "\x00", "\xff", "\r\n", "a b", strings.Repeat("t", 199), strings.Repeat("t", 200), string(every[:200]), strings.Repeat("é", 100)}
	bodies := [][]byte{nil, {}, {0}, []byte("\r\n"), every[:1000], every[:65534], every}
	y := New()
	id := 0
	for _, tube := range tubes {
		for _, body := range bodies {
			id++
			j := ready(id, tube, 1)
			j.Body = body
			wantErr(t, y.Add(j), api.OK)
			wantJob(t, y, j)
			wantErr(t, y.Set(j), api.OK)
			wantJob(t, y, j)
		}
		wantSums(t, y.Sums(tube), api.Sums{Ready: len(bodies), Urgent: len(bodies)})
		wantId(t, y.Ready(tube), id-len(bodies)+1)
	}
	slices.Sort(tubes)
	wantTubes(t, y, tubes...)
}

// P15.2, R2: of several errors the id's comes first, then the state's.
func TestAddErrors(t *testing.T) {
	y := some(t)
	for _, id := range append(wrongIds, 1, 4) {
		wantRefused(t, y, api.ErrYardId, addOf(api.Job{Id: id, State: 9, Holder: 99}))
		wantRefused(t, y, api.ErrYardId, addOf(api.Job{Id: id, State: api.Ready, Holder: 99}))
		wantRefused(t, y, api.ErrYardId, addOf(api.Job{Id: id, State: 9, Holder: -1, Tube: "a"}))
	}
	for _, state := range wrongStates {
		wantRefused(t, y, api.ErrYardState, addOf(api.Job{Id: 20, State: state, Due: -1, Order: -1, Holder: 99}))
	}
	wantRefused(t, y, api.ErrYardState, addOf(api.Job{Id: 20}))
	wantRefused(t, y, api.ErrYardId, addOf(api.Job{}))
}

// P15.3: every state may become every one, with other numbers; what then is told is what a yard tells to which the job
// was added so.
func TestSet(t *testing.T) {
	for _, old := range append(each(3, "a"), ready(3, "a", 9), delayed(3, "a", 1), reserved(3, "a", 9, 0), buried(3, "a", 1)) {
		for _, j := range append(each(3, "a"), ready(3, "a", 2000), delayed(3, "a", 8), reserved(3, "a", 2, 5), buried(3, "a", 9)) {
			j.Pri, j.Delay = j.Pri+1, 6
			j.Counts = api.Counts{Reserves: 1, Timeouts: 2, Releases: 3, Buries: 4, Kicks: 5}
			y := with(t, old, ready(4, "b", 1), reserved(5, "b", 4, 2), delayed(6, "a", 4), buried(7, "a", 3), ready(8, "a", 4))
			wantErr(t, y.Set(j), api.OK)
			wantTells(t, y, tellsOf(with(t, j, ready(4, "b", 1), reserved(5, "b", 4, 2), delayed(6, "a", 4), buried(7, "a", 3), ready(8, "a", 4))))
		}
	}
}

// P15.3: a job that is alone in its tube, and with its holder, stays alone.
func TestSetAlone(t *testing.T) {
	y := with(t, ready(3, "a", 1))
	for _, j := range append(each(3, "a"), reserved(3, "a", 2, 5), reserved(3, "a", 2, 6), reserved(3, "a", 1, 6), ready(3, "a", 4), ready(3, "a", 4)) {
		wantErr(t, y.Set(j), api.OK)
		wantTells(t, y, tellsOf(with(t, j)))
	}
	wantErr(t, y.Delete(3), api.OK)
	wantTells(t, y, tellsOf(New()))
}

// P15.3: a job that is not there can't become another one, whatever number it has.
func TestSetIds(t *testing.T) {
	y := some(t)
	for _, id := range append(wrongIds, 11, 12, 1<<32+1, api.MaxId) {
		for _, j := range each(id, "a") {
			wantRefused(t, y, api.ErrYardId, setOf(j))
		}
	}
	wantErr(t, y.Delete(1), api.OK)
	wantRefused(t, y, api.ErrYardId, setOf(ready(1, "a", 5)))
}

// P15.3: a field that does not fit its state, each by itself; and what never changes.
func TestSetFields(t *testing.T) {
	y := some(t)
	for _, old := range y.Jobs() {
		for _, j := range each(old.Id, old.Tube) {
			for _, k := range spoilt(j) {
				wantRefused(t, y, api.ErrYardField, setOf(k))
			}
			for _, tube := range []string{"", "A", "c", "a\x00", "aa", " a"} {
				k := j
				k.Tube = tube
				wantRefused(t, y, api.ErrYardField, setOf(k))
			}
			for _, body := range []string{"", "y", "X", "xx", "x\x00"} {
				k := j
				k.Body = []byte(body)
				wantRefused(t, y, api.ErrYardField, setOf(k))
			}
			for _, n := range []int{math.MinInt, -1, 2, 1<<32 + 1, math.MaxInt} {
				k := j
				k.TTR = n
				wantRefused(t, y, api.ErrYardField, setOf(k))
				k = j
				k.Born = n
				wantRefused(t, y, api.ErrYardField, setOf(k))
			}
		}
	}
}

// P15.3: the tube of another job that is there is another tube.
func TestSetTube(t *testing.T) {
	y := some(t)
	for _, old := range y.Jobs() {
		for _, j := range each(old.Id, map[string]string{"a": "b", "b": "a"}[old.Tube]) {
			wantRefused(t, y, api.ErrYardField, setOf(j))
		}
	}
}

// P15.3: fields at their edges. (TTR and Born are the job's own.)
func TestSetRightFields(t *testing.T) {
	for _, j := range rightFields() {
		for _, old := range each(1, "a") {
			old.TTR, old.Born = j.TTR, j.Born
			y := with(t, old)
			wantErr(t, y.Set(j), api.OK)
			wantTells(t, y, tellsOf(with(t, j)))
		}
	}
}

// P15.3, R2: of several errors the id's comes first, then the state's.
func TestSetErrors(t *testing.T) {
	y := some(t)
	for _, id := range append(wrongIds, 11, 20) {
		wantRefused(t, y, api.ErrYardId, setOf(api.Job{Id: id, State: 9, Holder: 99}))
		wantRefused(t, y, api.ErrYardId, setOf(api.Job{Id: id, State: api.Ready, Holder: 99}))
		wantRefused(t, y, api.ErrYardId, setOf(api.Job{Id: id, State: 9, Holder: -1, Tube: "a", TTR: 1, Body: []byte("x")}))
	}
	for _, state := range wrongStates {
		wantRefused(t, y, api.ErrYardState, setOf(api.Job{Id: 1, State: state, Due: -1, Order: -1, Holder: 99}))
		wantRefused(t, y, api.ErrYardState, setOf(api.Job{Id: 1, State: state, Holder: -1, Tube: "b"}))
	}
}

// P15.3, R3: a nil body and an empty one are the same.
func TestNilAndEmpty(t *testing.T) {
	for _, body := range [][]byte{nil, {}} {
		for _, later := range [][]byte{nil, {}} {
			j := ready(1, "a", 1)
			j.Body = body
			y := with(t, j)
			j.Body = later
			wantErr(t, y.Set(j), api.OK)
			wantJob(t, y, j)
			j.Body = []byte{0}
			wantRefused(t, y, api.ErrYardField, setOf(j))
		}
	}
}

// P15.4: what was deleted is nowhere, and the others stand as they would without it.
func TestDelete(t *testing.T) {
	all := some(t).Jobs()
	for i, gone := range all {
		y := some(t)
		wantErr(t, y.Delete(gone.Id), api.OK)
		wantNone(t, y, gone.Id)
		wantTells(t, y, tellsOf(with(t, slices.Delete(slices.Clone(all), i, i+1)...)))
		wantRefused(t, y, api.ErrYardId, deleteOf(gone.Id))
	}
}

// P15.4: what is not there can't be deleted, whatever number it is.
func TestDeleteWrong(t *testing.T) {
	y := some(t)
	for _, id := range append(wrongIds, 11, 1<<32+1, api.MaxId) {
		wantRefused(t, y, api.ErrYardId, deleteOf(id))
	}
}

// P15.4: behind the last one's going nothing is left, in whatever order they go.
func TestDeleteAll(t *testing.T) {
	for step := 1; step <= 10; step++ {
		y := some(t)
		for i := 1; i <= 10; i++ {
			wantErr(t, y.Delete(i*step%11), api.OK)
		}
		wantTells(t, y, tellsOf(New()))
		wantErr(t, y.Add(ready(1, "a", 1)), api.OK)
		wantTells(t, y, tellsOf(with(t, ready(1, "a", 1))))
	}
}

// P15.5: the job as it was handed in last, or the zero job.
func TestGet(t *testing.T) {
	y := some(t)
	wantJob(t, y, ready(1, "a", 5))
	wantJob(t, y, delayed(3, "a", 7))
	wantJob(t, y, reserved(4, "a", 9, 4))
	wantJob(t, y, buried(5, "a", 2))
	for _, id := range append(wrongIds, 11, 1<<32+1, api.MaxId) {
		wantNone(t, y, id)
	}
	j := api.Job{Id: 5, Pri: 11, Delay: 12, TTR: 1, State: api.Reserved, Due: 15, Holder: 16, Counts: api.Counts{Reserves: 17, Timeouts: 18, Releases: 19, Buries: 20, Kicks: 21}, Tube: "a", Body: []byte("x")}
	set(t, y, j)
	wantJob(t, y, j)
	wantErr(t, y.Delete(5), api.OK)
	wantNone(t, y, 5)
}

// P15.6: the smallest number is first, however far it is from the others, whatever the ids are.
func TestFirst(t *testing.T) {
	for i, less := range farNumbers {
		for _, more := range farNumbers[i+1:] {
			for _, ids := range [][2]int{{1, 2}, {2, 1}, {api.MaxId, 1}, {1, api.MaxId}} {
				wantId(t, with(t, ready(ids[0], "a", less), ready(ids[1], "a", more)).Ready("a"), ids[0])
				wantId(t, with(t, ready(ids[0], "a", more), ready(ids[1], "a", less)).Ready("a"), ids[1])
				if less < 1 {
					continue
				}
				wantId(t, with(t, delayed(ids[0], "a", less), delayed(ids[1], "a", more)).Soonest("a"), ids[0])
				wantId(t, with(t, delayed(ids[0], "a", more), delayed(ids[1], "a", less)).Soonest("a"), ids[1])
				wantId(t, with(t, buried(ids[0], "a", less), buried(ids[1], "a", more)).Eldest("a"), ids[0])
				wantId(t, with(t, buried(ids[0], "a", more), buried(ids[1], "a", less)).Eldest("a"), ids[1])
			}
		}
	}
}

// P15.6: of equals the smallest id is first, in whatever order they came.
func TestFirstOfEquals(t *testing.T) {
	for _, ids := range [][]int{{1, 2, 3}, {3, 2, 1}, {2, 3, 1}, {2, 1, 3}, {api.MaxId, 1, 1 << 32}, {1 << 32, api.MaxId, 1<<32 - 1}} {
		r, d, e := New(), New(), New()
		for _, id := range ids {
			wantErr(t, r.Add(ready(id, "a", 7)), api.OK)
			wantErr(t, d.Add(delayed(id, "a", 7)), api.OK)
			wantErr(t, e.Add(buried(id, "a", 7)), api.OK)
		}
		wantIds(t, []int{r.Ready("a"), d.Soonest("a"), e.Eldest("a")}, slices.Min(ids), slices.Min(ids), slices.Min(ids))
	}
}

// P15.6: what else a job has does not matter: only the number that its state is told by, and its id.
func TestFirstByOneNumberAlone(t *testing.T) {
	y := with(t, withPri(delayed(1, "a", 9), 0), withPri(delayed(2, "a", 8), 5), withPri(buried(3, "a", 9), 0), withPri(buried(4, "a", 8), 5))
	wantId(t, y.Soonest("a"), 2)
	wantId(t, y.Eldest("a"), 4)
	early, late := ready(5, "a", 5), ready(6, "a", 4)
	late.Born, late.TTR, late.Delay, late.Counts.Reserves = 100, 100, 100, 100
	wantErr(t, y.Add(early), api.OK)
	wantErr(t, y.Add(late), api.OK)
	wantId(t, y.Ready("a"), 6)
}

// P15.6: a tube's jobs are those of just its name, and of one state.
func TestFirstOfTube(t *testing.T) {
	y := some(t)
	wantIds(t, []int{y.Ready("a"), y.Soonest("a"), y.Eldest("a")}, 1, 3, 5)
	wantIds(t, []int{y.Ready("b"), y.Soonest("b"), y.Eldest("b")}, 6, 7, 10)
	for _, tube := range []string{"", "A", "B", "a\x00", "ab", "aa", " a", "c", strings.Repeat("a", 500)} {
		wantIds(t, []int{y.Ready(tube), y.Soonest(tube), y.Eldest(tube)}, 0, 0, 0)
	}
	for _, j := range each(1, "a") {
		y := with(t, j)
		wantIds(t, []int{y.Ready("a"), y.Soonest("a"), y.Eldest("a")}, b(j.State == api.Ready), b(j.State == api.Delayed), b(j.State == api.Buried))
	}
}

// P15.6: a job's other number moves it to where it belongs.
func TestFirstAfterSet(t *testing.T) {
	y := with(t, ready(1, "a", 5), ready(2, "a", 6), ready(3, "a", 7))
	set(t, y, ready(3, "a", 5))
	wantId(t, y.Ready("a"), 1)
	set(t, y, ready(3, "a", 4))
	wantId(t, y.Ready("a"), 3)
	set(t, y, ready(3, "a", 9), ready(1, "a", 8))
	wantId(t, y.Ready("a"), 2)
	set(t, y, delayed(1, "a", 5), delayed(2, "a", 5), delayed(3, "a", 4))
	wantId(t, y.Ready("a"), 0)
	wantId(t, y.Soonest("a"), 3)
	set(t, y, delayed(3, "a", 6))
	wantId(t, y.Soonest("a"), 1)
	set(t, y, buried(1, "a", 5), buried(2, "a", 4))
	wantId(t, y.Soonest("a"), 3)
	wantId(t, y.Eldest("a"), 2)
	set(t, y, buried(2, "a", 6))
	wantId(t, y.Eldest("a"), 1)
}

// P15.7: those are over whose Due is at most the clock, by Due and then by id, of all tubes; none of another state.
func TestOver(t *testing.T) {
	y := some(t)
	wantOver(t, y, 5, nil, nil)
	wantOver(t, y, 6, []int{7}, []int{8})
	wantOver(t, y, 7, []int{7, 3}, []int{8, 9})
	wantOver(t, y, 8, []int{7, 3}, []int{8, 9})
	wantOver(t, y, 9, []int{7, 3}, []int{8, 9, 4})
	wantOver(t, y, math.MaxInt, []int{7, 3}, []int{8, 9, 4})
	for _, now := range []int{math.MinInt, math.MinInt + 1, -7, -1, 0, 1} {
		wantOver(t, y, now, nil, nil)
	}
}

// P15.7: equals stand by their ids, in whatever order and tubes they came, and whoever holds them.
func TestOverOfEquals(t *testing.T) {
	y := with(t, delayed(9, "b", 5), reserved(8, "a", 5, 7), delayed(3, "a", 5), reserved(2, "c", 5, 1), delayed(6, "c", 5), reserved(5, "b", 5, 63), delayed(7, "a", 4), reserved(10, "b", 4, 0), delayed(1, "a", 6), reserved(4, "a", 6, 0))
	wantOver(t, y, 5, []int{7, 3, 6, 9}, []int{10, 2, 5, 8})
	wantOver(t, y, 6, []int{7, 3, 6, 9, 1}, []int{10, 2, 5, 8, 4})
	wantOver(t, y, 4, []int{7}, []int{10})
}

// P15.7: at the ends of the numbers.
func TestOverAtEnds(t *testing.T) {
	y := with(t, delayed(1, "a", math.MaxInt), reserved(2, "a", math.MaxInt, 0), delayed(3, "a", math.MaxInt-1), reserved(4, "a", math.MaxInt-1, 0), delayed(5, "a", 1), reserved(6, "a", 1, 0))
	wantOver(t, y, math.MaxInt, []int{5, 3, 1}, []int{6, 4, 2})
	wantOver(t, y, math.MaxInt-1, []int{5, 3}, []int{6, 4})
	wantOver(t, y, math.MaxInt-2, []int{5}, []int{6})
	wantOver(t, y, 1, []int{5}, []int{6})
	wantOver(t, y, 0, nil, nil)
}

// P15.7: to tell what is over changes nothing: what is done to these jobs later is done as if nobody had asked.
func TestOverChangesNothing(t *testing.T) {
	for now := range 11 {
		y := some(t)
		y.Over(now)
		y.Over(now)
		wantTells(t, y, tellsOf(some(t)))
		for id := 1; id <= 10; id++ {
			y, other := some(t), some(t)
			y.Over(now)
			wantErr(t, y.Delete(id), api.OK)
			other.Delete(id)
			wantTells(t, y, tellsOf(other))
			for _, j := range append(each(id, "a"), each(id, "b")...) {
				y, other := some(t), some(t)
				y.Over(now)
				wantErr(t, y.Set(j), other.Set(j))
				y.Over(now)
				wantTells(t, y, tellsOf(other))
			}
		}
	}
}

// P15.8: those that a connection holds, by Due and then by id, of all tubes; none of another one, or of another state.
func TestHeld(t *testing.T) {
	y := some(t)
	wantIds(t, y.Held(4), 8, 4)
	wantIds(t, y.Held(0), 9)
	for conn := -70; conn < 140; conn++ {
		if conn != 0 && conn != 4 {
			wantIds(t, y.Held(conn))
		}
	}
	for _, conn := range append(moreConns, 256+4, 1<<32, 1<<32+4, -1<<32) {
		wantIds(t, y.Held(conn))
	}
	y = with(t, reserved(4, "a", 5, 63), reserved(3, "b", 6, 63), reserved(2, "a", 5, 63), reserved(1, "c", 6, 63), reserved(5, "a", math.MaxInt, 63), reserved(6, "a", 1, 63))
	wantIds(t, y.Held(63), 6, 2, 4, 1, 3, 5)
}

// P15.8: what is reserved for another one, for longer, or no more.
func TestHeldAfterSet(t *testing.T) {
	y := with(t, reserved(1, "a", 5, 3), reserved(2, "a", 6, 3), reserved(3, "a", 7, 3))
	set(t, y, reserved(1, "a", 6, 3))
	wantIds(t, y.Held(3), 1, 2, 3)
	set(t, y, reserved(1, "a", 7, 3))
	wantIds(t, y.Held(3), 2, 1, 3)
	set(t, y, reserved(2, "a", 6, 0))
	wantIds(t, y.Held(3), 1, 3)
	wantIds(t, y.Held(0), 2)
	set(t, y, ready(1, "a", 7), buried(3, "a", 7))
	wantIds(t, y.Held(3))
	wantErr(t, y.Delete(2), api.OK)
	wantIds(t, y.Held(0))
	wantOver(t, y, math.MaxInt, nil, nil)
}

// P15.9: what is urgent: ready, with a priority below 1024.
func TestUrgent(t *testing.T) {
	for _, pri := range append(farNumbers, 1022, 1025) {
		y := with(t, ready(1, "a", pri), withPri(delayed(2, "a", 1), pri), withPri(reserved(3, "a", 1, 0), pri), withPri(buried(4, "a", 1), pri))
		want := api.Sums{Ready: 1, Delayed: 1, Reserved: 1, Buried: 1, Urgent: b(pri < 1024)}
		wantSums(t, y.Sums("a"), want)
		wantSums(t, y.All(), want)
	}
	y := with(t, ready(1, "a", 1024))
	for _, pri := range []int{1023, 1023, 1024, 1024, 0} {
		set(t, y, ready(1, "a", pri))
		wantSums(t, y.All(), api.Sums{Ready: 1, Urgent: b(pri < 1024)})
	}
	set(t, y, withPri(delayed(1, "a", 3), 0))
	wantSums(t, y.All(), api.Sums{Delayed: 1})
}

// P15.9: sums of a tube, of all, and of what has no jobs.
func TestSums(t *testing.T) {
	y := some(t)
	wantSums(t, y.Sums("a"), api.Sums{Ready: 2, Delayed: 1, Reserved: 1, Buried: 1, Urgent: 1})
	wantSums(t, y.Sums("b"), api.Sums{Ready: 1, Delayed: 1, Reserved: 2, Buried: 1, Urgent: 1})
	wantSums(t, y.All(), api.Sums{Ready: 3, Delayed: 2, Reserved: 3, Buried: 2, Urgent: 2})
	for _, tube := range []string{"", "A", "ab", "a\x00", "c"} {
		wantSums(t, y.Sums(tube), api.Sums{})
	}
}

// P15.10: names rise byte by byte, and each stands once, while it has a job.
func TestTubes(t *testing.T) {
	y := New()
	wantTubes(t, y)
	names := []string{"b", "a", "\xff", "B", "aa", "\x00", "a\x00", "a ", "é", "10", "9", "a"}
	for i, name := range names {
		wantErr(t, y.Add(each(i+1, name)[i%4]), api.OK)
	}
	wantTubes(t, y, "\x00", "10", "9", "B", "a", "a\x00", "a ", "aa", "b", "é", "\xff")
	y.Delete(2)
	wantTubes(t, y, "\x00", "10", "9", "B", "a", "a\x00", "a ", "aa", "b", "é", "\xff")
	y.Delete(12)
	y.Delete(1)
	wantTubes(t, y, "\x00", "10", "9", "B", "a\x00", "a ", "aa", "é", "\xff")
}

// P15.10: all jobs, by rising ids, in whatever order they came.
func TestJobs(t *testing.T) {
	y := New()
	if got := y.Jobs(); len(got) != 0 {
		t.Errorf("Jobs() = %s; want none", show(got))
	}
	ids := []int{9, 10, 2, api.MaxId, 1, 1 << 32, 100}
	want := map[int]api.Job{}
	for i, id := range ids {
		want[id] = each(id, "abc"[i%3:i%3+1])[i%4]
		wantErr(t, y.Add(want[id]), api.OK)
	}
	got := y.Jobs()
	if len(got) != len(ids) {
		t.Fatalf("Jobs() = %s; want %d", show(got), len(ids))
	}
	slices.Sort(ids)
	for i, id := range ids {
		if !reflect.DeepEqual(got[i], want[id]) {
			t.Errorf("the job %d of all is %s; want %s", i, show(got[i]), show(want[id]))
		}
	}
}
