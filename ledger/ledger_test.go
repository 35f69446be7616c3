package ledger

import (
	"bytes"
	"fmt"
	"math"
	"reflect"
	"slices"
	"strings"
	"testing"

	"stint/api"
	"stint/disk"
	"stint/frame"
	"stint/record"
)

// small is the config of the chapter's examples, wide one in which nothing ever lacks room.
var (
	small = api.Config{JobMax: 100, Segment: 256, Quota: 1024}
	wide  = api.Config{JobMax: 65535, Segment: 4096, Quota: 1 << 26}
)

// Numbers that no file of a log has, and no job; some of them are right if their upper bits are lost.
var farNumbers = []int{math.MinInt, math.MinInt + 1, -1 << 40, -1, 0, 1<<40 + 1, 1<<40 + 2, 1 << 41, 1<<62 - 1, 1 << 62, 1<<62 + 1, math.MaxInt - 1, math.MaxInt}

// ready is the job of the chapter's examples: its whole record has 116 bytes.
func ready(id int) api.Stored {
	return api.Stored{Id: id, Pri: 1, TTR: 9, State: api.Ready, Tube: "t", Body: []byte("x")}
}

// sized is a job whose whole record has that many bytes.
func sized(id, size int) api.Stored {
	j := ready(id)
	j.Body = bytes.Repeat([]byte("b"), size-115)
	return j
}

func delayed(j api.Stored, due int) api.Stored {
	j.Delay, j.State, j.Due, j.Order = 3, api.Delayed, due, 0
	return j
}

func buried(j api.Stored, order int) api.Stored {
	j.Pri, j.State, j.Due, j.Order = 7, api.Buried, 0, order
	return j
}

func withPri(j api.Stored, pri int) api.Stored {
	j.Pri = pri
	return j
}

func withId(j api.Stored, id int) api.Stored {
	j.Id = id
	return j
}

func head(num, next int) api.Record { return api.Record{Kind: api.RecHead, File: num, Next: next} }

func whole(j api.Stored) api.Record { return api.Record{Kind: api.RecWhole, Job: j} }

func short(j api.Stored) api.Record {
	return api.Record{Kind: api.RecShort, Job: api.Stored{Id: j.Id, Pri: j.Pri, Delay: j.Delay, State: j.State, Due: j.Due, Order: j.Order, Counts: j.Counts}}
}

func gone(id int) api.Record { return api.Record{Kind: api.RecGone, Id: id} }

// framesOf are the frames of records from a place of a file on.
func framesOf(num, place int, list ...api.Record) []byte {
	var data []byte
	for _, r := range list {
		payload, err := record.Put(r)
		if err != api.OK {
			panic(fmt.Sprint("no record: ", r, err))
		}
		made, err := frame.Make(num, place+len(data), payload)
		if err != api.OK {
			panic(fmt.Sprint("no frame: ", num, place, err))
		}
		data = append(data, made...)
	}
	return data
}

// fileOf is a file with these records' frames, all of it safe.
func fileOf(num int, list ...api.Record) api.File {
	data := framesOf(num, 0, list...)
	return api.File{Num: num, Data: data, Safe: len(data)}
}

// ended is a file with these bytes behind what it has.
func ended(f api.File, data string) api.File {
	f.Data = append(bytes.Clone(f.Data), data...)
	return f
}

func create(num int) api.Act    { return api.Act{Kind: api.ActCreate, File: num} }
func syncOf(num int) api.Act    { return api.Act{Kind: api.ActSync, File: num} }
func removeOf(num int) api.Act  { return api.Act{Kind: api.ActRemove, File: num} }
func cut(num, size int) api.Act { return api.Act{Kind: api.ActCut, File: num, Size: size} }

// add is the act that appends a record at a place.
func add(num, place int, r api.Record) api.Act {
	return api.Act{Kind: api.ActAppend, File: num, Data: framesOf(num, place, r)}
}

// tells is all that a ledger tells. A body that is none is nil in it.
type tells struct {
	jobs             []api.Stored
	at               []int // of each job
	next             int
	used, held, room int
	oldest, newest   int
	moved, written   int
}

// plainBody is a job with a body of its own.
func plainBody(j api.Stored) api.Stored {
	j.Body = append([]byte(nil), j.Body...)
	return j
}

func plainBodies(list []api.Stored) []api.Stored {
	var plain []api.Stored
	for _, j := range list {
		plain = append(plain, plainBody(j))
	}
	return plain
}

// tellsOf asks a ledger for all that it tells.
func tellsOf(l *Ledger) tells {
	s := tells{jobs: plainBodies(l.Jobs()), next: l.Next(), used: l.Used(), held: l.Held(), room: l.Room(), moved: l.Moved(), written: l.Written()}
	s.oldest, s.newest = l.Files()
	for _, j := range s.jobs {
		s.at = append(s.at, l.File(j.Id))
	}
	return s
}

// show cuts what is long, so that a failure can be read.
func show(x any) string {
	text := fmt.Sprintf("%+v", x)
	if len(text) > 1500 {
		return text[:1500] + ".."
	}
	return text
}

// showActs are acts as words.
func showActs(list []api.Act) string {
	words := []string{}
	for _, a := range list {
		word := fmt.Sprintf("kind %d file %d", a.Kind, a.File)
		if a.Kind >= api.ActCreate && a.Kind <= api.ActRemove {
			word = fmt.Sprint([]string{"create ", "append ", "sync ", "cut ", "remove "}[a.Kind-1], a.File)
		}
		if a.Kind == api.ActAppend {
			word += fmt.Sprintf(" (%d)", len(a.Data))
		}
		if a.Kind == api.ActCut {
			word += fmt.Sprintf(" to %d", a.Size)
		}
		words = append(words, word)
	}
	return strings.Join(words, ", ")
}

func sameActs(x, y []api.Act) bool {
	return slices.EqualFunc(x, y, func(a, b api.Act) bool {
		return a.Kind == b.Kind && a.File == b.File && a.Size == b.Size && bytes.Equal(a.Data, b.Data)
	})
}

func wantActs(t *testing.T, got []api.Act, want ...api.Act) {
	t.Helper()
	if !sameActs(got, want) {
		t.Errorf("the acts are %s; want %s, with the right bytes", showActs(got), showActs(want))
	}
}

func wantOK(t *testing.T, err api.Errno) {
	t.Helper()
	if err != api.OK {
		t.Errorf("refused: %d", err)
	}
}

func wantTells(t *testing.T, l *Ledger, want tells) {
	t.Helper()
	if got := tellsOf(l); !reflect.DeepEqual(got, want) {
		t.Errorf("it tells %s; want %s", show(got), show(want))
	}
}

func wantJobs(t *testing.T, l *Ledger, want ...api.Stored) {
	t.Helper()
	if got := plainBodies(l.Jobs()); !reflect.DeepEqual(got, plainBodies(want)) {
		t.Errorf("Jobs() = %s; want %s", show(got), show(want))
	}
}

// stands is how the examples tell a ledger.
func stands(l *Ledger) string {
	oldest, newest := l.Files()
	return fmt.Sprintf("%d; %d, %d, %d; %d %d; %d", l.Next(), l.Used(), l.Held(), l.Room(), oldest, newest, l.File(1))
}

func wantStands(t *testing.T, l *Ledger, want string) {
	t.Helper()
	if got := stands(l); got != want {
		t.Errorf("it stands at %s; want %s", got, want)
	}
}

// opened is a ledger of files that may be opened, and its acts.
func opened(t *testing.T, c api.Config, files ...api.File) (*Ledger, []api.Act) {
	t.Helper()
	l, acts, err := Open(c, files)
	if l == nil || err != api.OK {
		t.Fatalf("Open: %d", err)
	}
	return l, acts
}

// bench is a ledger with a disk to which its acts are done, unless it has none.
type bench struct {
	t *testing.T
	l *Ledger
	d *disk.Disk
}

// begun is a new ledger on a disk.
func begun(t *testing.T, c api.Config) *bench {
	t.Helper()
	l, acts, err := New(c)
	d, refused := disk.New(c.Quota)
	if l == nil || err != api.OK || refused != api.OK {
		t.Fatalf("New: %d, %d", err, refused)
	}
	b := &bench{t, l, d}
	b.done(acts, api.OK)
	return b
}

// done does the acts of a call that must not be refused.
func (b *bench) done(acts []api.Act, err api.Errno) []api.Act {
	b.t.Helper()
	if err != api.OK {
		b.t.Fatalf("refused: %d at %s", err, stands(b.l))
	}
	for _, a := range acts {
		if err := b.d.Do(a); err != api.OK {
			b.t.Fatalf("the disk refuses %s: %d", showActs([]api.Act{a}), err)
		}
	}
	return acts
}

func (b *bench) put(j api.Stored) int {
	b.t.Helper()
	id, acts, err := b.l.Put(j)
	b.done(acts, err)
	return id
}

func (b *bench) change(j api.Stored) []api.Act {
	b.t.Helper()
	acts, err := b.l.Change(j)
	return b.done(acts, err)
}

func (b *bench) bury(j api.Stored) []api.Act {
	b.t.Helper()
	acts, err := b.l.Bury(j)
	return b.done(acts, err)
}

func (b *bench) gone(id int) []api.Act {
	b.t.Helper()
	acts, err := b.l.Gone(id)
	return b.done(acts, err)
}

// wantRefused does a call that must be refused, and must change nothing.
func wantRefused(t *testing.T, l *Ledger, want api.Errno, call func(l *Ledger) (int, []api.Act, api.Errno)) {
	t.Helper()
	before := tellsOf(l)
	id, acts, err := call(l)
	if id != 0 || len(acts) != 0 || err != want {
		t.Errorf("it answers %d, %s, %d; want %d alone", id, showActs(acts), err, want)
	}
	wantTells(t, l, before)
}

func putOf(j api.Stored) func(l *Ledger) (int, []api.Act, api.Errno) {
	return func(l *Ledger) (int, []api.Act, api.Errno) { return l.Put(j) }
}

func changeOf(j api.Stored) func(l *Ledger) (int, []api.Act, api.Errno) {
	return func(l *Ledger) (int, []api.Act, api.Errno) {
		acts, err := l.Change(j)
		return 0, acts, err
	}
}

func buryOf(j api.Stored) func(l *Ledger) (int, []api.Act, api.Errno) {
	return func(l *Ledger) (int, []api.Act, api.Errno) {
		acts, err := l.Bury(j)
		return 0, acts, err
	}
}

func goneOf(id int) func(l *Ledger) (int, []api.Act, api.Errno) {
	return func(l *Ledger) (int, []api.Act, api.Errno) {
		acts, err := l.Gone(id)
		return 0, acts, err
	}
}

// The chapter's examples, line by line, with the bytes of each record.
func TestExamples(t *testing.T) {
	l, acts, err := New(small)
	wantOK(t, err)
	wantActs(t, acts, create(1), add(1, 0, head(1, 1)), syncOf(1))
	wantStands(t, l, "1; 25, 0, 974; 1 1; 0")
	seven, last := withPri(ready(1), 7), buried(ready(1), 1)
	for _, step := range []struct {
		call   func(l *Ledger) (int, []api.Act, api.Errno)
		id     int
		acts   []api.Act
		stands string
	}{
		{putOf(ready(0)), 1, []api.Act{add(1, 25, whole(ready(1))), syncOf(1)}, "2; 141, 164, 694; 1 1; 1"},
		{putOf(ready(0)), 2, []api.Act{add(1, 141, whole(ready(2))), syncOf(1)}, "3; 257, 328, 414; 1 1; 1"},
		{putOf(ready(0)), 3, []api.Act{create(2), add(2, 0, head(2, 3)), add(2, 25, whole(ready(3))), syncOf(2)}, "4; 398, 492, 109; 1 2; 1"},
		{changeOf(seven), 0, []api.Act{add(2, 141, short(seven)), syncOf(2)}, "4; 495, 492, 12; 1 2; 1"},
		{buryOf(last), 0, []api.Act{add(2, 238, short(last)), syncOf(2)}, "4; 592, 370, 37; 1 2; 1"},
		{goneOf(2), 0, []api.Act{create(3), add(3, 0, head(3, 4)), add(3, 25, gone(2)), syncOf(3), add(3, 42, whole(last)), syncOf(3), removeOf(1)}, "4; 493, 206, 300; 2 3; 3"},
		{goneOf(3), 0, []api.Act{add(3, 158, gone(3)), syncOf(3), removeOf(2)}, "4; 175, 42, 782; 3 3; 3"},
		{goneOf(1), 0, []api.Act{add(3, 175, gone(1)), syncOf(3), create(4), add(4, 0, head(4, 4)), syncOf(4), removeOf(3)}, "4; 25, 0, 974; 4 4; 0"},
	} {
		id, acts, err := step.call(l)
		wantOK(t, err)
		if id != step.id {
			t.Errorf("the id is %d; want %d", id, step.id)
		}
		wantActs(t, acts, step.acts...)
		wantStands(t, l, step.stands)
		switch step.stands {
		case "4; 398, 492, 109; 1 2; 1":
			wantRefused(t, l, api.ErrLedgerRoom, putOf(ready(0)))
		case "4; 495, 492, 12; 1 2; 1":
			wantRefused(t, l, api.ErrLedgerRoom, changeOf(withPri(ready(1), 8)))
		case "4; 25, 0, 974; 4 4; 0":
			wantRefused(t, l, api.ErrLedgerJob, putOf(buried(ready(0), 1)))
			wantRefused(t, l, api.ErrLedgerId, changeOf(ready(9)))
			other := ready(1)
			other.Tube = "u"
			wantRefused(t, l, api.ErrLedgerId, changeOf(other))
		}
	}
	if l.Moved() != 1 || l.Written() != 9 {
		t.Errorf("Moved() = %d, Written() = %d; want 1, 9", l.Moved(), l.Written())
	}
}

// The errors' numbers, and the sizes that the chapter names.
func TestNumbers(t *testing.T) {
	if api.ErrArg != 1 || api.ErrConfig != 103 || api.ErrLedgerJob != 140 || api.ErrLedgerId != 141 || api.ErrLedgerRoom != 142 {
		t.Error("the errors have other numbers")
	}
	for _, c := range []struct {
		record api.Record
		size   int
	}{{head(1, 1), headSize}, {short(ready(1)), shortSize}, {gone(1), goneSize}, {whole(ready(1)), wholeSize(ready(1))}} {
		if got := record.Size(c.record); got != c.size {
			t.Errorf("a record of the kind %d has %d bytes; want %d", c.record.Kind, c.size, got)
		}
	}
	if headSize != 25 || shortSize != 97 || goneSize != 17 || wholeSize(ready(1)) != 116 || toGo != 42 || toBury != 122 {
		t.Error("the chapter has other sizes")
	}
}

func conf(jobMax, segment, quota int) api.Config {
	return api.Config{JobMax: jobMax, Segment: segment, Quota: quota}
}

// wrongConfigs are configs that may not be.
func wrongConfigs() []api.Config {
	list := []api.Config{
		{}, conf(0, 256, 1024), conf(65536, 256, 1024), conf(-1, 256, 1024),
		conf(1, 127, 1024), conf(1, 257, 1024), conf(1, 1<<20+1, 1<<26), conf(1, 0, 1024), conf(1, -1, 1024),
		conf(1, 128, 1023), conf(1, 128, 1<<26+1), conf(1, 128, 0), conf(1, 128, -1024),
	}
	for _, n := range farNumbers {
		list = append(list, conf(n, 256, 1024), conf(1, n, 1024), conf(1, 256, n))
	}
	return list
}

// P14.1
func TestNew(t *testing.T) {
	for _, c := range []api.Config{conf(1, 128, 1024), small, conf(65535, 256, 1024), conf(1, 1<<20, 1<<22), conf(65535, 1<<20, 1<<26), conf(1, 128, 1<<26)} {
		l, acts, err := New(c)
		if l == nil || err != api.OK {
			t.Fatalf("New(%v): %d", c, err)
		}
		wantActs(t, acts, create(1), add(1, 0, head(1, 1)), syncOf(1))
		wantTells(t, l, tells{next: 1, used: 25, room: c.Quota - 50, oldest: 1, newest: 1})
	}
}

// P14.1, P14.2: ErrConfig, also where the files are wrong too.
func TestWrongConfigs(t *testing.T) {
	for _, c := range wrongConfigs() {
		if l, acts, err := New(c); l != nil || len(acts) != 0 || err != api.ErrConfig {
			t.Errorf("New(%v): %v, %s, %d", c, l, showActs(acts), err)
		}
		for _, files := range [][]api.File{nil, {fileOf(1, head(1, 1))}, {{Num: 0}}, {{Num: 2}, {Num: 2}}} {
			if l, acts, err := Open(c, files); l != nil || len(acts) != 0 || err != api.ErrConfig {
				t.Errorf("Open(%v, %d files): %v, %s, %d", c, len(files), l, showActs(acts), err)
			}
		}
	}
}

// P14.2: numbers that no file has, and numbers that two files have.
func TestOpenWrongFiles(t *testing.T) {
	right := fileOf(5, head(5, 1), whole(ready(3)))
	var lists [][]api.File
	for _, num := range farNumbers {
		wrong := api.File{Num: num, Data: right.Data}
		lists = append(lists, []api.File{wrong}, []api.File{right, wrong}, []api.File{wrong, right}, []api.File{wrong, wrong})
	}
	for _, num := range []int{1, 2, 5, 1<<40 - 1, 1 << 40} {
		lists = append(lists, []api.File{{Num: num}, {Num: num}}, []api.File{{Num: num, Data: right.Data}, {Num: 3}, {Num: num}}, []api.File{{Num: 4}, {Num: num}, right, {Num: num}})
	}
	for _, files := range lists {
		if l, acts, err := Open(small, files); l != nil || len(acts) != 0 || err != api.ErrArg {
			t.Errorf("Open(%s): %v, %s, %d; want ErrArg", show(files), l, showActs(acts), err)
		}
	}
}

// P14.2: the least and the greatest numbers may be.
func TestOpenNumbers(t *testing.T) {
	l, acts := opened(t, small, fileOf(1<<40, head(1<<40, 3)), fileOf(1, head(1, 1), whole(ready(2))))
	wantActs(t, acts)
	wantTells(t, l, tells{jobs: []api.Stored{ready(2)}, at: []int{1}, next: 3, used: 166, held: 164, room: 1024 - 25 - 166 - 164, oldest: 1, newest: 1 << 40})
}

// P14.2: no file.
func TestOpenNothing(t *testing.T) {
	for _, files := range [][]api.File{nil, {}} {
		l, acts := opened(t, small, files...)
		wantActs(t, acts, create(1), add(1, 0, head(1, 1)), syncOf(1))
		wantTells(t, l, tells{next: 1, used: 25, room: 974, oldest: 1, newest: 1})
	}
}

// P14.2: files in any order, with all that they say.
func TestOpenAnyOrder(t *testing.T) {
	files := []api.File{
		fileOf(2, head(2, 1), whole(ready(1)), whole(ready(2))),
		fileOf(4, head(4, 3), short(buried(ready(1), 5)), whole(sized(3, 130))),
		fileOf(9, head(9, 4), gone(2), whole(delayed(ready(4), 8)), short(withPri(ready(3), 6))),
	}
	want := tells{
		jobs: []api.Stored{buried(ready(1), 5), withPri(sized(3, 130), 6), delayed(ready(4), 8)}, at: []int{2, 4, 9}, next: 5,
		used: 257 + 252 + 255, held: 42 + 164 + 164, room: 4096 - 25 - 764 - 370, oldest: 2, newest: 9,
	}
	orders := [][]int{{0, 1, 2}, {0, 2, 1}, {1, 0, 2}, {1, 2, 0}, {2, 0, 1}, {2, 1, 0}}
	for _, order := range orders {
		var list []api.File
		for _, i := range order {
			list = append(list, files[i])
		}
		l, acts := opened(t, conf(1, 512, 4096), list...)
		wantActs(t, acts)
		wantTells(t, l, want)
		for _, id := range []int{2, 5, 0, -1} {
			if l.File(id) != 0 {
				t.Errorf("File(%d) = %d", id, l.File(id))
			}
		}
	}
}

// P14.2: the newest file has no whole head.
func TestOpenNoHead(t *testing.T) {
	one := fileOf(1, head(1, 1), whole(ready(1)), whole(ready(2)))
	headOf2 := string(framesOf(2, 0, head(2, 3)))
	for _, data := range []string{
		"", "x", headOf2[:1], headOf2[:24], headOf2[1:], strings.Repeat("\x00", 300), strings.Repeat("\xff", 300),
		string(fileOf(2, head(3, 3)).Data), string(fileOf(1, head(2, 3)).Data), string(fileOf(2, whole(ready(3)), head(2, 3)).Data),
		string(fileOf(2, gone(1)).Data), headOf2[:8] + "x" + headOf2[9:],
	} {
		l, acts := opened(t, small, api.File{Num: 2, Data: []byte(data)}, one)
		wantActs(t, acts, cut(2, 0), add(2, 0, head(2, 3)), syncOf(2))
		wantTells(t, l, tells{jobs: []api.Stored{ready(1), ready(2)}, at: []int{1, 1}, next: 3, used: 282, held: 328, room: 1024 - 25 - 282 - 328, oldest: 1, newest: 2})

		l, acts = opened(t, small, api.File{Num: 2, Data: []byte(data)})
		wantActs(t, acts, cut(2, 0), add(2, 0, head(2, 1)), syncOf(2))
		wantTells(t, l, tells{next: 1, used: 25, room: 974, oldest: 2, newest: 2})
	}
	l, acts := opened(t, small, api.File{Num: 7, Data: []byte("no head")}, api.File{Num: 3})
	wantActs(t, acts, cut(7, 0), add(7, 0, head(7, 1)), syncOf(7), removeOf(3))
	wantTells(t, l, tells{next: 1, used: 25, room: 974, oldest: 7, newest: 7})
	l, acts = opened(t, small, api.File{Num: 1 << 40, Data: []byte("no head")})
	wantActs(t, acts, cut(1<<40, 0), add(1<<40, 0, head(1<<40, 1)), syncOf(1<<40))
	wantTells(t, l, tells{next: 1, used: 25, room: 974, oldest: 1 << 40, newest: 1 << 40})
}

// P14.2: the newest file ends with what is no record of it.
func TestOpenCut(t *testing.T) {
	f := fileOf(3, head(3, 1), whole(ready(1)))
	next := string(framesOf(3, 141, whole(ready(2))))
	for _, rest := range []string{"x", next[:1], next[:115], next[:7] + "y" + next[8:], string(framesOf(3, 141, head(3, 9))), string(framesOf(3, 142, whole(ready(2)))), string(framesOf(3, 141, head(3, 9), whole(ready(2))))} {
		l, acts := opened(t, small, ended(f, rest))
		wantActs(t, acts, cut(3, 141))
		wantTells(t, l, tells{jobs: []api.Stored{ready(1)}, at: []int{3}, next: 2, used: 141, held: 164, room: 694, oldest: 3, newest: 3})
		id, acts, err := l.Put(ready(0))
		wantOK(t, err)
		wantActs(t, acts, add(3, 141, whole(ready(2))), syncOf(3))
		if id != 2 {
			t.Errorf("the id is %d; want 2", id)
		}
	}
	l, acts := opened(t, small, ended(f, next))
	wantActs(t, acts)
	wantTells(t, l, tells{jobs: []api.Stored{ready(1), ready(2)}, at: []int{3, 3}, next: 3, used: 257, held: 328, room: 414, oldest: 3, newest: 3})
}

// P14.2: a cut comes ahead of the letting go, and that ahead of a fresh file.
func TestOpenOrderOfActs(t *testing.T) {
	one := fileOf(1, head(1, 1), whole(ready(1)))
	two := fileOf(2, head(2, 2), whole(ready(2)))
	three := fileOf(3, head(3, 3), gone(1), gone(2))
	l, acts := opened(t, small, ended(three, "torn"), two, one)
	wantActs(t, acts, cut(3, 59), removeOf(1), removeOf(2), create(4), add(4, 0, head(4, 3)), syncOf(4), removeOf(3))
	wantTells(t, l, tells{next: 3, used: 25, room: 974, oldest: 4, newest: 4})

	l, acts = opened(t, small, ended(fileOf(3, head(3, 3), gone(1)), "torn"), two, one)
	wantActs(t, acts, cut(3, 42), removeOf(1))
	wantTells(t, l, tells{jobs: []api.Stored{ready(2)}, at: []int{2}, next: 3, used: 183, held: 164, room: 652, oldest: 2, newest: 3})

	// There is no file behind the greatest.
	last := fileOf(1<<40, head(1<<40, 3), gone(1), gone(2))
	l, acts = opened(t, small, ended(last, "torn"), two, one)
	wantActs(t, acts, cut(1<<40, 59), removeOf(1), removeOf(2))
	wantTells(t, l, tells{next: 3, used: 59, room: 940, oldest: 1 << 40, newest: 1 << 40})
	l, acts = opened(t, small, fileOf(1<<40-1, head(1<<40-1, 3), gone(1)))
	wantActs(t, acts, create(1<<40), add(1<<40, 0, head(1<<40, 3)), syncOf(1<<40), removeOf(1<<40-1))
	wantTells(t, l, tells{next: 3, used: 25, room: 974, oldest: 1 << 40, newest: 1 << 40})
}

// P14.2: no job is left, and the newest file has a head alone: nothing is to be done but letting go.
func TestOpenEmpty(t *testing.T) {
	l, acts := opened(t, small, fileOf(6, head(6, 77)))
	wantActs(t, acts)
	wantTells(t, l, tells{next: 77, used: 25, room: 974, oldest: 6, newest: 6})
	l, acts = opened(t, small, fileOf(6, head(6, 77)), fileOf(5, head(5, 99), gone(4)))
	wantActs(t, acts, removeOf(5))
	wantTells(t, l, tells{next: 99, used: 25, room: 974, oldest: 6, newest: 6})
	// What was let go is told by the fresh file's head.
	l, acts = opened(t, small, fileOf(6, head(6, 77), gone(5)), fileOf(5, head(5, 99), gone(4)))
	wantActs(t, acts, removeOf(5), create(7), add(7, 0, head(7, 99)), syncOf(7), removeOf(6))
	wantTells(t, l, tells{next: 99, used: 25, room: 974, oldest: 7, newest: 7})
}

// P14.2: files that are no segments are its files, and are let go in their turn.
func TestOpenNoSegments(t *testing.T) {
	two := fileOf(2, head(2, 1), whole(ready(1)))
	five := fileOf(5, head(5, 2), whole(ready(2)))
	l, acts := opened(t, small, api.File{Num: 1, Data: []byte("abc")}, five, api.File{Num: 4, Data: []byte("abcde")}, two, api.File{Num: 3})
	wantActs(t, acts, removeOf(1))
	wantTells(t, l, tells{jobs: []api.Stored{ready(1), ready(2)}, at: []int{2, 5}, next: 3, used: 287, held: 328, room: 1024 - 25 - 287 - 328, oldest: 2, newest: 5})
	acts, err := l.Gone(1)
	wantOK(t, err)
	wantActs(t, acts, add(5, 141, gone(1)), syncOf(5), removeOf(2), removeOf(3), removeOf(4))
	wantTells(t, l, tells{jobs: []api.Stored{ready(2)}, at: []int{5}, next: 3, used: 158, held: 164, room: 1024 - 25 - 158 - 164, oldest: 5, newest: 5, written: 1})
}

// P14.2: an older file that ends with no record is not cut.
func TestOpenOlderIsNotCut(t *testing.T) {
	l, acts := opened(t, small, ended(fileOf(1, head(1, 1), whole(ready(1))), "torn"), fileOf(2, head(2, 2)))
	wantActs(t, acts)
	wantTells(t, l, tells{jobs: []api.Stored{ready(1)}, at: []int{1}, next: 2, used: 170, held: 164, room: 665, oldest: 1, newest: 2})
}

// P14.2: how many bytes there are is not looked at, nor how many are safe; nor is there a move.
func TestOpenGreat(t *testing.T) {
	list := []api.Record{head(1, 1)}
	for i := range 100 {
		list = append(list, whole(sized(i+1, 65000)))
	}
	for i := range 98 {
		list = append(list, gone(i+1))
	}
	one := fileOf(1, list...)
	two := fileOf(2, head(2, 101), whole(sized(101, 40000)))
	for _, safe := range []int{0, 5, len(one.Data), -1, math.MinInt, math.MaxInt} {
		one.Safe, two.Safe = safe, safe
		l, acts := opened(t, small, one, two)
		wantActs(t, acts)
		used := len(one.Data) + len(two.Data)
		wantTells(t, l, tells{
			jobs: []api.Stored{sized(99, 65000), sized(100, 65000), sized(101, 40000)}, at: []int{1, 1, 2}, next: 102,
			used: used, held: 3 * 164, room: 1024 - 25 - used - 3*164, oldest: 1, newest: 2,
		})
	}
	// What may always be done may be done there too.
	l, _ := opened(t, small, one, two)
	acts, err := l.Bury(buried(sized(99, 65000), 1))
	wantOK(t, err)
	wantActs(t, acts, create(3), add(3, 0, head(3, 102)), add(3, 25, short(buried(sized(99, 65000), 1))), syncOf(3))
	wantRefused(t, l, api.ErrLedgerRoom, buryOf(buried(sized(99, 65000), 2)))
	wantRefused(t, l, api.ErrLedgerRoom, changeOf(sized(99, 65000)))
	wantRefused(t, l, api.ErrLedgerRoom, changeOf(sized(100, 65000)))
	wantRefused(t, l, api.ErrLedgerRoom, putOf(ready(0)))
	acts, err = l.Gone(100)
	wantOK(t, err)
	wantActs(t, acts, add(3, 122, gone(100)), syncOf(3))
	acts, err = l.Gone(99)
	wantOK(t, err)
	wantActs(t, acts, add(3, 139, gone(99)), syncOf(3), removeOf(1))
}

// fieldCases are changes of a right ready job's fields, with whether the job may be stored then.
func fieldCases() []fieldCase {
	var list []fieldCase
	number := func(set func(j *api.Stored, n int), least, most int) {
		for _, n := range []int{least, least + 1, most - 1, most} {
			list = append(list, fieldCase{func(j *api.Stored) { set(j, n) }, true})
		}
		for _, n := range []int{least - 1, most + 1, math.MinInt, math.MaxInt} {
			list = append(list, fieldCase{func(j *api.Stored) { set(j, n) }, false})
		}
	}
	number(func(j *api.Stored, n int) { j.Pri = n }, 0, 1<<32-1)
	number(func(j *api.Stored, n int) { j.Delay = n }, 0, 1<<32-1)
	number(func(j *api.Stored, n int) { j.State, j.Due = api.Delayed, n }, 1, 1<<40+1<<32-1)
	number(func(j *api.Stored, n int) { j.Counts.Reserves = n }, 0, 1<<62-1)
	number(func(j *api.Stored, n int) { j.Counts.Timeouts = n }, 0, 1<<62-1)
	number(func(j *api.Stored, n int) { j.Counts.Releases = n }, 0, 1<<62-1)
	number(func(j *api.Stored, n int) { j.Counts.Buries = n }, 0, 1<<62-1)
	number(func(j *api.Stored, n int) { j.Counts.Kicks = n }, 0, 1<<62-1)
	for _, n := range []int{1, -1, math.MaxInt} {
		list = append(list,
			fieldCase{func(j *api.Stored) { j.Due = n }, false},
			fieldCase{func(j *api.Stored) { j.Order = n }, false},
			fieldCase{func(j *api.Stored) { j.State, j.Due, j.Order = api.Delayed, 1, n }, false})
	}
	for _, state := range []int{0, api.Reserved, 5, -1, math.MinInt, math.MaxInt, 1<<32 + 1} {
		list = append(list, fieldCase{func(j *api.Stored) { j.State = state }, false})
	}
	return list
}

type fieldCase struct {
	turn func(j *api.Stored)
	ok   bool
}

// fixedCases are changes of the fields that a job keeps, likewise.
func fixedCases() []fieldCase {
	var list []fieldCase
	for _, n := range []int{1, 2, 1<<32 - 2, 1<<32 - 1} {
		list = append(list, fieldCase{func(j *api.Stored) { j.TTR = n }, true})
	}
	for _, n := range []int{0, -1, 1 << 32, math.MinInt, math.MaxInt, 1<<32 + 1} {
		list = append(list, fieldCase{func(j *api.Stored) { j.TTR = n }, false})
	}
	for _, n := range []int{1, 2, 1<<40 - 1, 1 << 40} {
		list = append(list, fieldCase{func(j *api.Stored) { j.Born = n }, true})
	}
	for _, n := range []int{-1, 1<<40 + 1, math.MinInt, math.MaxInt} {
		list = append(list, fieldCase{func(j *api.Stored) { j.Born = n }, false})
	}
	for _, tube := range []string{"u", "tt", "default", strings.Repeat("t", 200)} {
		list = append(list, fieldCase{func(j *api.Stored) { j.Tube = tube }, true})
	}
	for _, tube := range []string{"", "-t", "t u", "t\n", "\xff", strings.Repeat("t", 201)} {
		list = append(list, fieldCase{func(j *api.Stored) { j.Tube = tube }, false})
	}
	for _, size := range []int{0, 2, 101, 65534, 65535} {
		list = append(list, fieldCase{func(j *api.Stored) { j.Body = make([]byte, size) }, true})
	}
	for _, size := range []int{65536, 70000} {
		list = append(list, fieldCase{func(j *api.Stored) { j.Body = make([]byte, size) }, false})
	}
	return list
}

// P14.3: each field that may be is stored just so; ErrLedgerJob for each that may not.
func TestPutFields(t *testing.T) {
	for i, c := range slices.Concat(fieldCases(), fixedCases()) {
		b := begun(t, wide)
		b.put(ready(0))
		j := ready(0)
		c.turn(&j)
		if !c.ok {
			wantRefused(t, b.l, api.ErrLedgerJob, putOf(j))
			continue
		}
		id, acts, err := b.l.Put(j)
		if id != 2 || err != api.OK {
			t.Errorf("case %d: %d, %d", i, id, err)
			continue
		}
		wantActs(t, acts, add(1, 141, whole(withId(j, 2))), syncOf(1))
		wantJobs(t, b.l, ready(1), withId(j, 2))
	}
}

// P14.3: a body is not held against the config's JobMax.
func TestPutAboveJobMax(t *testing.T) {
	b := begun(t, conf(1, 256, 1<<20))
	b.put(sized(0, 65000))
	wantJobs(t, b.l, sized(1, 65000))
}

// P14.3: the Id is not looked at.
func TestPutId(t *testing.T) {
	b := begun(t, wide)
	for i, id := range append([]int{1, 2, 7, 1 << 40}, farNumbers...) {
		if got := b.put(ready(id)); got != i+1 {
			t.Errorf("Put of a job with the Id %d: %d; want %d", id, got, i+1)
		}
		if j, there := b.l.Get(i + 1); !there || j.Id != i+1 {
			t.Errorf("Get(%d) = %v, %v", i+1, j, there)
		}
	}
}

// P14.3: no buried job, also one that is right.
func TestPutBuried(t *testing.T) {
	b := begun(t, wide)
	for _, order := range []int{0, 1, 5, 1<<62 - 1, 1 << 62, -1} {
		wantRefused(t, b.l, api.ErrLedgerJob, putOf(buried(ready(0), order)))
	}
}

// P14.3, P14.7: the last id, and none behind it.
func TestLastId(t *testing.T) {
	l, _ := opened(t, wide, fileOf(1, head(1, 1<<40)))
	id, acts, err := l.Put(ready(0))
	wantOK(t, err)
	wantActs(t, acts, add(1, 25, whole(ready(1<<40))), syncOf(1))
	if id != 1<<40 || l.Next() != 1<<40+1 || l.File(1<<40) != 1 {
		t.Errorf("Put: %d; Next() = %d, File() = %d", id, l.Next(), l.File(1<<40))
	}
	wantRefused(t, l, api.ErrLedgerId, putOf(ready(0)))
	wantRefused(t, l, api.ErrLedgerId, putOf(ready(5)))
	wantRefused(t, l, api.ErrLedgerJob, putOf(buried(ready(0), 1)))
	wantRefused(t, l, api.ErrLedgerJob, putOf(withPri(ready(0), -1)))
	acts, err = l.Change(withPri(ready(1<<40), 4))
	wantOK(t, err)
	wantActs(t, acts, add(1, 141, short(withPri(ready(1<<40), 4))), syncOf(1))
	acts, err = l.Gone(1 << 40)
	wantOK(t, err)
	wantActs(t, acts, add(1, 238, gone(1<<40)), syncOf(1), create(2), add(2, 0, head(2, 1<<40+1)), syncOf(2), removeOf(1))
	if l.Next() != 1<<40+1 {
		t.Errorf("Next() = %d", l.Next())
	}
	wantRefused(t, l, api.ErrLedgerId, putOf(ready(0)))
	// The want of an id is told ahead of the want of room.
	l, _ = opened(t, small, fileOf(1, head(1, 1), whole(ready(1<<40)), whole(sized(1, 900))))
	wantRefused(t, l, api.ErrLedgerId, putOf(ready(0)))
}

// P14.3: what is wrong of a job is told ahead of the want of room.
func TestPutErrorsInOrder(t *testing.T) {
	l, _ := opened(t, small, fileOf(1, head(1, 1), whole(sized(1, 900))))
	wantRefused(t, l, api.ErrLedgerRoom, putOf(ready(0)))
	wantRefused(t, l, api.ErrLedgerJob, putOf(buried(ready(0), 1)))
	wantRefused(t, l, api.ErrLedgerJob, putOf(withPri(ready(0), -1)))
}

// atRoom is a ledger with just that room: job 1 is ready, 2 and 3 are buried, and the newest file is full or not.
func atRoom(t *testing.T, full bool, room int) *Ledger {
	t.Helper()
	files := []api.File{fileOf(1, head(1, 1), whole(ready(1)), whole(buried(ready(2), 1)), whole(buried(sized(3, 10000), 2)))}
	extra := 25
	if !full {
		files = append(files, fileOf(2, head(2, 4)))
		extra = 0
	}
	l, _ := opened(t, conf(1, 256, 1<<20), files...)
	l, acts := opened(t, conf(1, 256, 1<<20-l.Room()+room), files...)
	if len(acts) != 0 || l.Room() != room || l.extra() != extra {
		t.Fatalf("the test's ledger has the room %d; want %d", l.Room(), room)
	}
	return l
}

// wantRoomEdge holds a call against the room that it needs, in a newest file that is not full and in a full one.
func wantRoomEdge(t *testing.T, need int, call func(l *Ledger) (int, []api.Act, api.Errno)) {
	t.Helper()
	for _, full := range []bool{false, true} {
		least := need
		if full {
			least += 25
		}
		for _, room := range []int{least - 1, least - 25, least - 26, 0, -1, -1000} {
			wantRefused(t, atRoom(t, full, room), api.ErrLedgerRoom, call)
		}
		for _, room := range []int{least, least + 1, least + 1000} {
			if _, acts, err := call(atRoom(t, full, room)); err != api.OK || len(acts) < 2 {
				t.Errorf("with the room %d (full: %v, the need is %d): %d, %s", room, full, least, err, showActs(acts))
			}
		}
	}
}

// P14.3 to P14.5: how much room each call needs, to the byte.
func TestRoomEdges(t *testing.T) {
	wantRoomEdge(t, 116+164, putOf(ready(0)))
	wantRoomEdge(t, 116+164, putOf(delayed(ready(0), 5)))
	wantRoomEdge(t, 115+164, putOf(sized(0, 115)))
	wantRoomEdge(t, 5000+164, putOf(sized(0, 5000)))
	tube := ready(0)
	tube.Tube = strings.Repeat("t", 200)
	wantRoomEdge(t, 315+164, putOf(tube))
	wantRoomEdge(t, 97, changeOf(withPri(ready(1), 5)))
	wantRoomEdge(t, 97, changeOf(delayed(ready(1), 5)))
	wantRoomEdge(t, 97+122, changeOf(ready(2)))
	wantRoomEdge(t, 97+122, changeOf(delayed(ready(2), 5)))
	wantRoomEdge(t, 97, buryOf(buried(ready(2), 5)))
}

// P14.5, P14.6: what is never refused for room.
func TestNoRoomNeeded(t *testing.T) {
	for _, full := range []bool{false, true} {
		for _, room := range []int{1000, 122, 121, 97, 96, 42, 1, 0, -1, -122, -9000} {
			for _, call := range []func(l *Ledger) (int, []api.Act, api.Errno){buryOf(buried(ready(1), 5)), goneOf(1), goneOf(2), goneOf(3)} {
				if _, acts, err := call(atRoom(t, full, room)); err != api.OK || len(acts) < 2 {
					t.Errorf("with the room %d (full: %v): %d, %s", room, full, err, showActs(acts))
				}
			}
		}
	}
}

// P14.4, P14.5: each field that changes is stored just so; ErrLedgerJob for each that may not be.
func TestChangeFields(t *testing.T) {
	for _, c := range fieldCases() {
		b := begun(t, wide)
		b.put(ready(0))
		b.put(ready(0))
		j := ready(2)
		c.turn(&j)
		if !c.ok {
			wantRefused(t, b.l, api.ErrLedgerJob, changeOf(j))
			wantRefused(t, b.l, api.ErrLedgerJob, buryOf(j))
			continue
		}
		wantRefused(t, b.l, api.ErrLedgerJob, buryOf(j))
		wantActs(t, b.change(j), add(1, 257, short(j)), syncOf(1))
		wantJobs(t, b.l, ready(1), j)
		wantActs(t, b.change(ready(2)), add(1, 354, short(ready(2))), syncOf(1))
		wantJobs(t, b.l, ready(1), ready(2))
	}
}

// P14.5: each field of a buried job.
func TestBuryFields(t *testing.T) {
	for _, c := range fieldCases() {
		j := ready(2)
		c.turn(&j)
		if j.State != api.Ready || j.Order != 0 {
			continue // what follows needs a state of its own
		}
		j.State, j.Order = api.Buried, 5
		wantBuried(t, j, c.ok)
	}
	for _, order := range []int{1, 2, 1<<62 - 2, 1<<62 - 1} {
		wantBuried(t, buried(ready(2), order), true)
	}
	for _, order := range []int{0, -1, 1 << 62, math.MinInt, math.MaxInt} {
		wantBuried(t, buried(ready(2), order), false)
	}
	for _, due := range []int{1, -1, math.MaxInt} {
		j := buried(ready(2), 1)
		j.Due = due
		wantBuried(t, j, false)
	}
}

// wantBuried buries job 2 of a ledger.
func wantBuried(t *testing.T, j api.Stored, ok bool) {
	t.Helper()
	b := begun(t, wide)
	b.put(ready(0))
	b.put(ready(0))
	wantRefused(t, b.l, api.ErrLedgerJob, changeOf(j))
	if !ok {
		wantRefused(t, b.l, api.ErrLedgerJob, buryOf(j))
		return
	}
	wantActs(t, b.bury(j), add(1, 257, short(j)), syncOf(1))
	wantJobs(t, b.l, ready(1), j)
	wantRefused(t, b.l, api.ErrLedgerJob, changeOf(j))
	wantActs(t, b.bury(buried(ready(2), 9)), add(1, 354, short(buried(ready(2), 9))), syncOf(1))
	wantActs(t, b.change(ready(2)), add(1, 451, short(ready(2))), syncOf(1))
	wantJobs(t, b.l, ready(1), ready(2))
}

// P14.4, P14.5: what a job keeps: its TTR, Born, Tube and Body, right ones and wrong ones.
func TestChangeFixed(t *testing.T) {
	b := begun(t, wide)
	b.put(ready(0))
	b.put(ready(0))
	b.bury(buried(ready(1), 1))
	for _, c := range fixedCases() {
		for id := 1; id <= 2; id++ {
			j := ready(id)
			c.turn(&j)
			wantRefused(t, b.l, api.ErrLedgerJob, changeOf(j))
			wantRefused(t, b.l, api.ErrLedgerJob, buryOf(buried(j, 4)))
		}
	}
	for _, body := range []string{"", "y", "xx", "X"} {
		j := ready(2)
		j.Body = []byte(body)
		wantRefused(t, b.l, api.ErrLedgerJob, changeOf(j))
		wantRefused(t, b.l, api.ErrLedgerJob, buryOf(buried(j, 4)))
	}
}

// P14.4 to P14.6: no such job; that is told ahead of all else.
func TestNoSuchJob(t *testing.T) {
	b := begun(t, wide)
	b.put(ready(0))
	b.put(ready(0))
	b.put(ready(0))
	b.gone(2)
	for _, id := range append([]int{2, 4, 1<<32 + 1, 1 << 40}, farNumbers...) {
		for _, call := range []func(l *Ledger) (int, []api.Act, api.Errno){
			changeOf(ready(id)), changeOf(buried(ready(id), 1)), changeOf(withPri(ready(id), -1)), changeOf(api.Stored{Id: id}),
			buryOf(ready(id)), buryOf(buried(ready(id), 1)), buryOf(api.Stored{Id: id}), goneOf(id),
		} {
			wantRefused(t, b.l, api.ErrLedgerId, call)
		}
		if j, there := b.l.Get(id); there || !reflect.DeepEqual(plainBody(j), api.Stored{}) || b.l.File(id) != 0 {
			t.Errorf("Get(%d) = %v, %v, File %d", id, j, there, b.l.File(id))
		}
	}
}

// P14.4, P14.5: what is wrong of a job is told ahead of the want of room.
func TestChangeErrorsInOrder(t *testing.T) {
	for _, full := range []bool{false, true} {
		l := atRoom(t, full, 0)
		for id := 1; id <= 2; id++ {
			wantRefused(t, l, api.ErrLedgerRoom, changeOf(ready(id)))
			wantRefused(t, l, api.ErrLedgerJob, changeOf(buried(ready(id), 1)))
			wantRefused(t, l, api.ErrLedgerJob, changeOf(withPri(ready(id), -1)))
			wantRefused(t, l, api.ErrLedgerJob, buryOf(ready(id)))
		}
		wantRefused(t, l, api.ErrLedgerRoom, buryOf(buried(ready(2), 1)))
		wantRefused(t, l, api.ErrLedgerId, changeOf(ready(4)))
		wantRefused(t, l, api.ErrLedgerId, goneOf(4))
	}
}

// P14.4: a change that changes nothing is written too; and a job stays in the file of its whole record.
func TestChangeStays(t *testing.T) {
	b := begun(t, conf(1, 128, 4096))
	b.put(sized(0, 1000))
	for i := range 4 {
		num := 2 + i/2
		acts := b.change(sized(1, 1000))
		if i%2 == 0 {
			wantActs(t, acts, create(num), add(num, 0, head(num, 2)), add(num, 25, short(ready(1))), syncOf(num))
		} else {
			wantActs(t, acts, add(num, 122, short(ready(1))), syncOf(num))
		}
		if b.l.File(1) != 1 || b.l.Written() != 2+i {
			t.Errorf("File(1) = %d, Written() = %d", b.l.File(1), b.l.Written())
		}
	}
	wantJobs(t, b.l, sized(1, 1000))
}

// Full is a file that has c.Segment bytes; one less, and it is not.
func TestFull(t *testing.T) {
	for _, c := range []struct{ size, files int }{{127, 1}, {128, 1}, {200, 1}, {230, 1}, {231, 2}, {232, 2}, {400, 2}} {
		b := begun(t, conf(1, 256, 4096))
		b.put(sized(0, c.size))
		_, acts, err := b.l.Put(ready(0))
		b.done(acts, err)
		want := []api.Act{add(1, 25+c.size, whole(ready(2))), syncOf(1)}
		if c.files == 2 {
			want = []api.Act{create(2), add(2, 0, head(2, 2)), add(2, 25, whole(ready(2))), syncOf(2)}
		}
		wantActs(t, acts, want...)
		if _, newest := b.l.Files(); newest != c.files || b.l.File(2) != c.files {
			t.Errorf("the newest file is %d, job 2 stands in %d; want %d", newest, b.l.File(2), c.files)
		}
	}
}

// R8, full: no file is begun behind the greatest; it grows on, till there is no room.
func TestGreatestFile(t *testing.T) {
	l, _ := opened(t, small, fileOf(1<<40-1, head(1<<40-1, 1), whole(sized(1, 300))))
	acts, err := l.Change(sized(1, 300))
	wantOK(t, err)
	wantActs(t, acts, create(1<<40), add(1<<40, 0, head(1<<40, 2)), add(1<<40, 25, short(ready(1))), syncOf(1<<40))
	_, acts, err = l.Put(ready(0))
	wantOK(t, err)
	wantActs(t, acts, add(1<<40, 122, whole(ready(2))), syncOf(1<<40))
	acts, err = l.Gone(1)
	wantOK(t, err)
	wantActs(t, acts, add(1<<40, 238, gone(1)), syncOf(1<<40), removeOf(1<<40-1))
	place := 255
	for l.Room() >= 97 {
		acts, err = l.Change(ready(2))
		wantOK(t, err)
		wantActs(t, acts, add(1<<40, place, short(ready(2))), syncOf(1<<40))
		place += 97
	}
	if l.Used() != place || l.Moved() != 0 {
		t.Errorf("Used() = %d, Moved() = %d; want %d, 0", l.Used(), l.Moved(), place)
	}
	wantRefused(t, l, api.ErrLedgerRoom, changeOf(ready(2)))
	wantRefused(t, l, api.ErrLedgerRoom, putOf(ready(0)))
	acts, err = l.Bury(buried(ready(2), 1))
	wantOK(t, err)
	wantActs(t, acts, add(1<<40, place, short(buried(ready(2), 1))), syncOf(1<<40))
	acts, err = l.Gone(2)
	wantOK(t, err)
	wantActs(t, acts, add(1<<40, place+97, gone(2)), syncOf(1<<40))
	wantTells(t, l, tells{next: 3, used: place + 114, room: 999 - place - 114, oldest: 1 << 40, newest: 1 << 40, written: l.Written()})
}

// A move to the greatest file, which is full by its bytes, needs no head.
func TestMoveToGreatestFile(t *testing.T) {
	one := fileOf(1, head(1, 1), whole(ready(1)), whole(ready(2)))
	last := fileOf(1<<40, head(1<<40, 3), short(ready(1)), short(ready(1)), short(ready(1)))
	for _, room := range []int{115, 116} {
		// Behind the Gone there are 590 bytes, and 164 are held.
		l, acts := opened(t, conf(1, 128, 25+590+164+1000+room), ended(one, strings.Repeat("x", 1000)), last)
		wantActs(t, acts)
		acts, err := l.Gone(2)
		wantOK(t, err)
		want := []api.Act{add(1<<40, 316, gone(2)), syncOf(1 << 40)}
		if room == 116 {
			want = append(want, add(1<<40, 333, whole(ready(1))), syncOf(1<<40), removeOf(1))
		}
		wantActs(t, acts, want...)
	}
}

// A move comes if Used is above twice the whole records, and not if it is just that.
func TestMoveEdgeOfUse(t *testing.T) {
	// Behind the change there are 25 and the whole record's bytes in file 1, 25 and 97 in file 2: with 147 just twice the record's.
	for _, size := range []int{115, 116, 145, 146, 147, 148, 200} {
		j := sized(1, size)
		l, acts := opened(t, wide, fileOf(1, head(1, 1), whole(j)), fileOf(2, head(2, 2)))
		wantActs(t, acts)
		acts, err := l.Change(j)
		wantOK(t, err)
		want, moved := []api.Act{add(2, 25, short(j)), syncOf(2)}, 0
		if size < 147 {
			want, moved = append(want, add(2, 122, whole(j)), syncOf(2), removeOf(1)), 1
		}
		wantActs(t, acts, want...)
		if l.Moved() != moved || l.Written() != 1+moved || l.File(1) != 1+moved {
			t.Errorf("Moved() = %d, Written() = %d, File(1) = %d; want %d, %d, %d", l.Moved(), l.Written(), l.File(1), moved, 1+moved, 1+moved)
		}
	}
}

// Of the whole records those of all jobs count, also of those that stand in other files.
func TestMoveCountsAllJobs(t *testing.T) {
	for _, size := range []int{115, 276, 277, 1000} {
		// Behind the change there are 387 bytes in file 1, 122 and the size in file 2: with 277 just twice 116 and 277.
		two := sized(2, size)
		l, _ := opened(t, wide, ended(fileOf(1, head(1, 1), whole(ready(1))), strings.Repeat("x", 246)), fileOf(2, head(2, 2), whole(two)))
		acts, err := l.Change(two)
		wantOK(t, err)
		want := []api.Act{add(2, 25+size, short(two)), syncOf(2)}
		if size < 277 {
			want = append(want, add(2, 122+size, whole(ready(1))), syncOf(2), removeOf(1))
		}
		wantActs(t, acts, want...)
	}
}

// A move needs the room of its record, as the room is behind the change.
func TestMoveEdgeOfRoom(t *testing.T) {
	one := ended(fileOf(1, head(1, 1), whole(ready(1)), whole(ready(2))), strings.Repeat("x", 1000))
	two := fileOf(2, head(2, 3), short(ready(1)), short(ready(1)))
	used := len(one.Data) + len(two.Data) + 17
	for _, room := range []int{0, 91, 115, 116, 117} {
		l, _ := opened(t, conf(1, 256, 25+used+164+room), one, two)
		acts, err := l.Gone(2)
		wantOK(t, err)
		want := []api.Act{add(2, 219, gone(2)), syncOf(2)}
		if room >= 116 {
			want = append(want, add(2, 236, whole(ready(1))), syncOf(2), removeOf(1))
		}
		wantActs(t, acts, want...)
	}
}

// A move into a file that the change has filled begins another one.
func TestMoveBeginsFile(t *testing.T) {
	one := ended(fileOf(1, head(1, 1), whole(ready(1)), whole(ready(2))), strings.Repeat("x", 1000))
	two := fileOf(2, head(2, 3), short(ready(1)), short(ready(1)), gone(9))
	used := len(one.Data) + len(two.Data) + 97
	for _, room := range []int{116, 140, 141, 142} {
		l, acts := opened(t, conf(1, 256, 25+used+328+room), one, two)
		wantActs(t, acts)
		acts, err := l.Change(withPri(ready(2), 8))
		wantOK(t, err)
		want := []api.Act{add(2, 236, short(withPri(ready(2), 8))), syncOf(2)}
		if room >= 141 {
			want = append(want, create(3), add(3, 0, head(3, 3)), add(3, 25, whole(ready(1))), syncOf(3))
		}
		wantActs(t, acts, want...)
		if room >= 141 && (l.File(1) != 3 || l.File(2) != 1) {
			t.Errorf("the jobs stand in %d and %d; want 3 and 1", l.File(1), l.File(2))
		}
	}
}

// A head that a move, or a fresh file, begins has the next id behind a put.
func TestHeadsOfMoves(t *testing.T) {
	one := ended(fileOf(1, head(1, 1), whole(ready(1)), whole(ready(2))), strings.Repeat("x", 1000))
	two := fileOf(2, head(2, 3), short(ready(1)), short(ready(1)))
	l, _ := opened(t, conf(1, 256, 4096), one, two)
	id, acts, err := l.Put(ready(0))
	wantOK(t, err)
	wantActs(t, acts, add(2, 219, whole(ready(3))), syncOf(2), create(3), add(3, 0, head(3, 4)), add(3, 25, whole(ready(1))), syncOf(3))
	if id != 3 {
		t.Errorf("the id is %d; want 3", id)
	}
}

// A move is of the least id in the oldest file, as the job is stored by then; and one only for each change.
func TestMoveOfLeast(t *testing.T) {
	one := ended(fileOf(1, head(1, 1), whole(ready(5)), whole(ready(3)), whole(ready(9)), whole(ready(4))), strings.Repeat("x", 10000))
	two := fileOf(2, head(2, 10), whole(ready(1)), whole(ready(2)), whole(ready(9)))
	l, acts := opened(t, wide, one, two)
	wantActs(t, acts)
	place := 373
	for i, c := range []struct{ changed, moved int }{{3, 3}, {2, 4}, {5, 5}} {
		j := withPri(ready(c.changed), 70+i)
		acts, err := l.Change(j)
		wantOK(t, err)
		m, _ := l.Get(c.moved)
		want := []api.Act{add(2, place, short(j)), syncOf(2), add(2, place+97, whole(m)), syncOf(2)}
		if i == 2 {
			want = append(want, removeOf(1))
		}
		wantActs(t, acts, want...)
		place += 97 + 116
		if l.Moved() != i+1 || l.Written() != 2*(i+1) || l.File(c.moved) != 2 {
			t.Errorf("Moved() = %d, Written() = %d, File(%d) = %d", l.Moved(), l.Written(), c.moved, l.File(c.moved))
		}
	}
	wantJobs(t, l, ready(1), withPri(ready(2), 71), withPri(ready(3), 70), ready(4), withPri(ready(5), 72), ready(9))
}

// One file alone is never left, nor moved out of.
func TestOneFile(t *testing.T) {
	b := begun(t, wide)
	b.put(ready(0))
	for i := range 30 {
		wantActs(t, b.change(ready(1)), add(1, 141+97*i, short(ready(1))), syncOf(1))
	}
	if b.l.Moved() != 0 || b.l.Used() <= 2*116 {
		t.Errorf("Moved() = %d, Used() = %d", b.l.Moved(), b.l.Used())
	}
}

// Letting go ends at the first file that a job needs.
func TestLetGo(t *testing.T) {
	files := []api.File{
		fileOf(1, head(1, 1), whole(sized(1, 1000))), fileOf(2, head(2, 2)), fileOf(3, head(3, 2), whole(sized(2, 1000))),
		fileOf(4, head(4, 3), whole(sized(3, 1000))), fileOf(5, head(5, 4), whole(sized(4, 2000))), fileOf(6, head(6, 5)),
	}
	l, acts := opened(t, wide, files...)
	wantActs(t, acts)
	for _, c := range []struct {
		id    int
		files []int
	}{{3, nil}, {1, []int{1, 2}}, {2, []int{3, 4}}} {
		place := 25 + 17*l.Written()
		acts, err := l.Gone(c.id)
		wantOK(t, err)
		want := []api.Act{add(6, place, gone(c.id)), syncOf(6)}
		for _, num := range c.files {
			want = append(want, removeOf(num))
		}
		wantActs(t, acts, want...)
	}
	if oldest, newest := l.Files(); oldest != 5 || newest != 6 {
		t.Errorf("Files() = %d, %d", oldest, newest)
	}
}

// P14.6, P14.14: the last job goes.
func TestLastGone(t *testing.T) {
	b := begun(t, wide)
	b.put(ready(0))
	wantActs(t, b.gone(1), add(1, 141, gone(1)), syncOf(1), create(2), add(2, 0, head(2, 2)), syncOf(2), removeOf(1))
	wantTells(t, b.l, tells{next: 2, used: 25, room: 1<<26 - 50, oldest: 2, newest: 2, written: 2})
	b.put(ready(0))
	wantJobs(t, b.l, ready(2))
	wantActs(t, b.gone(2), add(2, 141, gone(2)), syncOf(2), create(3), add(3, 0, head(3, 3)), syncOf(3), removeOf(2))
}

// P14.6, P14.14: the last job goes by a record for which a file is begun.
func TestLastGoneInFullFile(t *testing.T) {
	b := begun(t, small)
	b.put(sized(0, 400))
	wantActs(t, b.gone(1), create(2), add(2, 0, head(2, 2)), add(2, 25, gone(1)), syncOf(2), removeOf(1), create(3), add(3, 0, head(3, 2)), syncOf(3), removeOf(2))
	wantTells(t, b.l, tells{next: 2, used: 25, room: 974, oldest: 3, newest: 3, written: 2})
	// With the greatest number that leaves a file behind it, the second one is not begun.
	l, _ := opened(t, small, fileOf(1<<40-1, head(1<<40-1, 1), whole(sized(1, 400))))
	acts, err := l.Gone(1)
	wantOK(t, err)
	wantActs(t, acts, create(1<<40), add(1<<40, 0, head(1<<40, 2)), add(1<<40, 25, gone(1)), syncOf(1<<40), removeOf(1<<40-1))
	wantTells(t, l, tells{next: 2, used: 42, room: 957, oldest: 1 << 40, newest: 1 << 40, written: 1})
}

// P14.7: what is told of each job, and of all, by rising ids.
func TestTold(t *testing.T) {
	b := begun(t, wide)
	var want []api.Stored
	for i := range 40 {
		j := sized(0, 115+i*7)
		j.Tube, j.Pri, j.TTR, j.Born = fmt.Sprint("tube", i%3), i, i+1, 100+i
		j.Counts = api.Counts{Reserves: i, Timeouts: 2 * i, Releases: 3 * i, Buries: 4 * i, Kicks: 5 * i}
		if i%4 == 1 {
			j = delayed(j, i)
		}
		if id := b.put(j); id != i+1 || b.l.Next() != i+2 {
			t.Errorf("Put: %d, Next() = %d", id, b.l.Next())
		}
		want = append(want, withId(j, i+1))
	}
	for _, i := range []int{30, 2, 17} {
		want[i] = buried(want[i], 100-i)
		b.bury(want[i])
	}
	wantJobs(t, b.l, want...)
	for i, j := range want {
		got, there := b.l.Get(i + 1)
		if !there || !reflect.DeepEqual(plainBody(got), plainBody(j)) {
			t.Errorf("Get(%d) = %v, %v; want %v", i+1, got, there, j)
		}
	}
	if held := b.l.Held(); held != 37*164+3*42 {
		t.Errorf("Held() = %d", held)
	}
	if b.l.Room() != wide.Quota-25-b.l.Used()-b.l.Held() || b.l.Written() != 43 {
		t.Errorf("Room() = %d, Written() = %d", b.l.Room(), b.l.Written())
	}
}

// P14.7: telling changes nothing.
func TestTellingChangesNothing(t *testing.T) {
	b := begun(t, small)
	b.put(ready(0))
	b.put(ready(0))
	b.put(ready(0))
	before := tellsOf(b.l)
	for range 3 {
		wantTells(t, b.l, before)
	}
	id, acts, err := b.l.Clone().Put(ready(0))
	if id != 0 || len(acts) != 0 || err != api.ErrLedgerRoom {
		t.Errorf("a clone's Put: %d, %s, %d", id, showActs(acts), err)
	}
	wantActs(t, b.gone(2), add(2, 141, gone(2)), syncOf(2))
}
