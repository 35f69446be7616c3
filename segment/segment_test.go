package segment

import (
	"bytes"
	"fmt"
	"iter"
	"math"
	"math/rand"
	"reflect"
	"runtime"
	"slices"
	"strings"
	"sync"
	"testing"
	"time"

	"stint/api"
	"stint/frame"
	"stint/record"
)

func head(num, next int) api.Record {
	return api.Record{Kind: api.RecHead, File: num, Next: next}
}

func ready(id int, tube string, pri int) api.Stored {
	return api.Stored{Id: id, Pri: pri, TTR: 9, State: api.Ready, Tube: tube, Body: []byte("x")}
}

func of(j api.Stored) api.Record { return api.Record{Kind: api.RecWhole, Job: j} }

func whole(id int, tube string, pri int) api.Record { return of(ready(id, tube, pri)) }

func bury(id, order int) api.Record {
	return api.Record{Kind: api.RecShort, Job: api.Stored{Id: id, Pri: 7, State: api.Buried, Order: order}}
}

func gone(id int) api.Record { return api.Record{Kind: api.RecGone, Id: id} }

// buried is what bury makes of a job.
func buried(j api.Stored, order int) api.Stored {
	j.Pri, j.Delay, j.State, j.Due, j.Order, j.Counts = 7, 0, api.Buried, 0, order, api.Counts{}
	return j
}

// payload is a record's payload; a record that may not be is a mistake of the test.
func payload(r api.Record) []byte {
	p, err := record.Put(r)
	if err != api.OK {
		panic(fmt.Sprint("no record: ", r, err))
	}
	return p
}

// add puts a frame with that payload behind a file's bytes.
func add(f api.File, payload []byte) api.File {
	made, err := frame.Make(f.Num, len(f.Data), payload)
	if err != api.OK {
		panic(fmt.Sprint("no frame: ", f.Num, len(payload), err))
	}
	return api.File{Num: f.Num, Data: slices.Concat(f.Data, made), Safe: f.Safe}
}

// file is a file with these records' frames.
func file(num int, list ...api.Record) api.File {
	f := api.File{Num: num}
	for _, r := range list {
		f = add(f, payload(r))
	}
	return f
}

// more is a file with these records' frames behind what it has.
func more(f api.File, list ...api.Record) api.File {
	for _, r := range list {
		f = add(f, payload(r))
	}
	return f
}

// ended is a file with these bytes behind what it has.
func ended(f api.File, data string) api.File {
	return api.File{Num: f.Num, Data: append(bytes.Clone(f.Data), data...), Safe: f.Safe}
}

// cut is a file's first bytes.
func cut(f api.File, size int) api.File {
	return api.File{Num: f.Num, Data: bytes.Clone(f.Data[:size]), Safe: f.Safe}
}

func renamed(f api.File, num int) api.File {
	return api.File{Num: num, Data: f.Data, Safe: f.Safe}
}

// Numbers that no file of a log has, and no job; some of them are right if their upper bits are lost.
var farNumbers = []int{math.MinInt, math.MinInt + 1, -1 << 40, -1, 0, 1<<40 + 1, 1<<40 + 2, 1 << 41, 1<<62 - 1, 1 << 62, 1<<62 + 1, math.MaxInt - 1, math.MaxInt}

// says is all that a log tells. A body that is none is nil in it.
type says struct {
	files []int
	all   []api.Placed
	jobs  []api.Stored
	at    []int // of each job
	next  int
}

// plainBody is a job with a body of its own.
func plainBody(j api.Stored) api.Stored {
	j.Body = append([]byte(nil), j.Body...)
	return j
}

func told(seq iter.Seq[api.Placed]) []api.Placed {
	var list []api.Placed
	for p := range seq {
		p.Record.Job = plainBody(p.Record.Job)
		list = append(list, p)
	}
	return list
}

// sayingOf asks a log for all that it tells.
func sayingOf(l *Log) says {
	s := says{all: told(l.All()), next: l.Next()}
	s.files = append(s.files, l.Files()...)
	for _, j := range l.Jobs() {
		s.jobs = append(s.jobs, plainBody(j))
		s.at = append(s.at, l.At(j.Id))
	}
	return s
}

// show cuts what is long, so that a failure can be read.
func show(x any) string {
	text := fmt.Sprintf("%+v", x)
	if len(text) > 1500 {
		return text[:1500] + ".."
	}
	return text
}

func wantSays(t *testing.T, l *Log, want says) {
	t.Helper()
	if got := sayingOf(l); !reflect.DeepEqual(got, want) {
		t.Errorf("it says %s; want %s", show(got), show(want))
	}
}

func wantSame(t *testing.T, what string, one, other *Log) {
	t.Helper()
	if a, b := sayingOf(one), sayingOf(other); !reflect.DeepEqual(a, b) {
		t.Errorf("%s: %s; want %s", what, show(b), show(a))
	}
}

func wantWhole(t *testing.T, f api.File, size int) {
	t.Helper()
	if n, is := Whole(f); n != size || is != (size > 0) {
		t.Errorf("Whole(%d: %d bytes) = %d, %v; want %d", f.Num, len(f.Data), n, is, size)
	}
}

func wantFiles(t *testing.T, l *Log, want ...int) {
	t.Helper()
	if got := l.Files(); !slices.Equal(got, want) {
		t.Errorf("Files() = %v; want %v", got, want)
	}
}

func wantJobs(t *testing.T, l *Log, want ...api.Stored) {
	t.Helper()
	got := l.Jobs()
	if !slices.EqualFunc(got, want, func(x, y api.Stored) bool { return reflect.DeepEqual(plainBody(x), plainBody(y)) }) {
		t.Errorf("Jobs() = %s; want %s", show(got), show(want))
	}
}

func wantNext(t *testing.T, l *Log, want int) {
	t.Helper()
	if got := l.Next(); got != want {
		t.Errorf("Next() = %d; want %d", got, want)
	}
}

func wantAt(t *testing.T, l *Log, id, want int) {
	t.Helper()
	if got := l.At(id); got != want {
		t.Errorf("At(%d) = %d; want %d", id, got, want)
	}
}

func wantAll(t *testing.T, l *Log, want ...api.Placed) {
	t.Helper()
	if got := told(l.All()); !reflect.DeepEqual(got, want) {
		t.Errorf("All() gives %s; want %s", show(got), show(want))
	}
}

// wantNone holds a log of files against one of no files.
func wantNone(t *testing.T, files ...api.File) {
	t.Helper()
	wantSays(t, Read(files), says{next: 1})
}

func read(files ...api.File) *Log { return Read(files) }

// The chapter's examples, line by line.
func TestExamples(t *testing.T) {
	l := read()
	wantSays(t, l, says{next: 1})
	wantAt(t, l, 1, 0)

	one := file(1, head(1, 1), whole(1, "a", 5), whole(2, "b", 5))
	wantWhole(t, one, 257)
	l = read(one)
	wantJobs(t, l, ready(1, "a", 5), ready(2, "b", 5))
	wantNext(t, l, 3)
	wantAt(t, l, 2, 1)

	l = read(file(2, head(2, 3), bury(1, 1)), one)
	wantFiles(t, l, 1, 2)
	wantJobs(t, l, buried(ready(1, "a", 5), 1), ready(2, "b", 5))
	wantNext(t, l, 3)

	l = read(one, file(2, head(2, 3), gone(1), whole(1, "c", 0)))
	wantJobs(t, l, ready(1, "c", 0), ready(2, "b", 5))
	wantAt(t, l, 1, 2)

	l = read(file(2, head(2, 3), gone(1), bury(1, 1)))
	wantJobs(t, l)
	wantNext(t, l, 3)
	wantFiles(t, l, 2)

	torn := cut(one, 25+116+50)
	wantWhole(t, torn, 141)
	wantJobs(t, read(torn), ready(1, "a", 5))
	wantNext(t, read(torn), 2)

	twice := file(1, head(1, 1), whole(1, "a", 5), head(1, 9), whole(2, "b", 5))
	wantWhole(t, twice, 141)
	wantJobs(t, read(twice), ready(1, "a", 5))
	wantNext(t, read(twice), 2)

	other := renamed(file(1, head(1, 1), whole(1, "a", 5)), 3)
	wantWhole(t, other, 0)
	wantFiles(t, read(other))

	wantFiles(t, read(file(1, whole(1, "a", 5)), file(1, head(1, 1))))
}

// The sizes that the chapter's examples name.
func TestSizes(t *testing.T) {
	for _, c := range []struct {
		record api.Record
		size   int
	}{{whole(1, "a", 5), 116}, {bury(1, 1), 97}, {gone(1), 17}} {
		wantWhole(t, file(1, head(1, 1), c.record), 25+c.size)
	}
	wantWhole(t, file(1, head(1, 1)), 25)
}

// mixed is a segment with records of all kinds, and where their frames end.
func mixed(num int) (api.File, []int) {
	list := []api.Record{head(num, 4), whole(1, "a", 5), bury(1, 1), whole(2, "bb", 0), gone(3), whole(3, "ccc", 9), gone(1)}
	ends := []int{25, 141, 238, 355, 372, 490, 507}
	return file(num, list...), ends
}

// wholeOf is how many bytes the last of these ends has that is at most size; 0: there is none.
func wholeOf(ends []int, size int) int {
	found := 0
	for _, end := range ends {
		if end <= size {
			found = end
		}
	}
	return found
}

// P12.1: each beginning of a segment.
func TestWholeOfBeginnings(t *testing.T) {
	for _, num := range []int{1, 2, 77, 1 << 32, 1<<40 - 1, 1 << 40} {
		f, ends := mixed(num)
		if len(f.Data) != 507 {
			t.Fatalf("the test's segment has %d bytes", len(f.Data))
		}
		for size := range len(f.Data) + 1 {
			wantWhole(t, cut(f, size), wholeOf(ends, size))
		}
	}
}

// P12.1: what is no segment: no head, a head that isn't the first, another file's head.
func TestNoSegments(t *testing.T) {
	list := []api.File{
		{},
		{Num: 1},
		{Num: 1, Data: []byte{}},
		ended(api.File{Num: 1}, "x"),
		ended(api.File{Num: 1}, strings.Repeat("\x00", 25)),
		ended(api.File{Num: 1}, strings.Repeat("\xff", 100)),
		file(1, whole(1, "a", 5)),
		file(1, whole(1, "a", 5), head(1, 1)),
		file(1, bury(1, 1), head(1, 1)),
		file(1, gone(1), head(1, 1)),
		file(1, head(2, 1), whole(1, "a", 5)),
		file(1, head(2, 1), head(1, 1)),
		file(2, head(1, 1)),
		file(1, head(1<<40, 1)),
		file(1<<40, head(1, 1)),
		file(1<<32+1, head(1, 1)),
		file(0, head(1, 1)),
		file(1<<40+1, head(1<<40, 1)),
		file(1<<62-1, head(1, 1)),
		more(ended(api.File{Num: 1}, "x"), head(1, 1)),
		more(ended(api.File{Num: 1}, strings.Repeat("\x00", 25)), head(1, 1)),
		{Num: 1, Data: file(1, head(1, 1)).Data[1:]},
		{Num: 1, Data: payload(head(1, 1))},
		renamed(file(1, head(1, 1)), 2),
		renamed(file(1, head(1, 1)), 0),
		renamed(file(1, head(1, 1)), -1),
		renamed(file(1, head(1, 1)), 1<<32+1),
		renamed(file(1, head(1, 1)), math.MinInt+1),
		renamed(file(2, head(1, 1)), 1),
	}
	for _, num := range farNumbers {
		list = append(list, renamed(file(1, head(1, 1)), num))
	}
	for i, f := range list {
		if n, is := Whole(f); n != 0 || is {
			t.Errorf("%d: Whole = %d, %v", i, n, is)
		}
		wantNone(t, f)
	}
	wantNone(t, list...)
}

// numberAt is a payload with another number in the place of one of its numbers.
func numberAt(p []byte, at int, n uint64) []byte {
	p = bytes.Clone(p)
	for i := range 8 {
		p[1+8*at+i] = byte(n >> (8 * i))
	}
	return p
}

// wrongPayloads are such as record.Get refuses.
func wrongPayloads() [][]byte {
	return [][]byte{
		{0}, {1}, {2}, {3}, {4}, {5}, {255}, []byte("hello"),
		make([]byte, 9), make([]byte, 17), make([]byte, 66000),
		payload(gone(1))[:8], append(payload(gone(1)), 0),
		payload(bury(1, 1))[:88], append(payload(bury(1, 1)), 'x'),
		payload(whole(1, "a", 5))[:106],
		payload(head(1, 1))[:16], append(payload(head(1, 1)), 0),
		numberAt(payload(gone(1)), 0, 0), numberAt(payload(gone(1)), 0, 1<<40+1),
		numberAt(payload(bury(1, 1)), 3, api.Reserved), numberAt(payload(bury(1, 1)), 5, 0),
		numberAt(payload(whole(1, "a", 5)), 3, 0), numberAt(payload(whole(1, "a", 5)), 5, api.Reserved),
		numberAt(payload(head(1, 1)), 1, 0), numberAt(payload(head(1, 1)), 1, 1<<40+2),
	}
}

// P12.1: a first frame that is right, but whose payload is no record.
func TestNoRecordAtFirst(t *testing.T) {
	for _, p := range wrongPayloads() {
		f := more(add(api.File{Num: 1}, p), head(1, 1), whole(1, "a", 5))
		wantWhole(t, f, 0)
		wantNone(t, f)
	}
}

// P12.1: the records end at the first payload that is no record, wherever it stands.
func TestNoRecordLater(t *testing.T) {
	for _, p := range wrongPayloads() {
		if _, err := record.Get(p); err == api.OK {
			t.Fatalf("the payload %.40q is right", p)
		}
		for _, ahead := range []api.File{file(1, head(1, 1)), file(1, head(1, 1), whole(1, "a", 5)), file(1, head(1, 1), whole(1, "a", 5), gone(2))} {
			f := more(add(ahead, p), whole(2, "b", 5), whole(9, "c", 5), gone(1))
			wantWhole(t, f, len(ahead.Data))
			wantSame(t, "a payload that is no record", read(ahead), read(f))
		}
	}
}

// P12.1: and at the first head that is not the first record, whatever it says.
func TestSecondHead(t *testing.T) {
	for _, second := range []api.Record{head(1, 1), head(1, 9), head(2, 1), head(2, 9), head(1<<40, 1<<40+1)} {
		for _, ahead := range []api.File{file(1, head(1, 1)), file(1, head(1, 1), whole(1, "a", 5)), file(1, head(1, 1), whole(1, "a", 5), gone(2))} {
			wantWhole(t, more(ahead, second), len(ahead.Data))
			f := more(ahead, second, whole(2, "b", 5), whole(9, "c", 5), gone(1))
			wantWhole(t, f, len(ahead.Data))
			wantSame(t, "a second head", read(ahead), read(f))
		}
	}
}

// P12.1: and where no right frame begins: one of another place, one of another file, a spoilt one, a short one.
func TestNoFrameLater(t *testing.T) {
	ahead := file(1, head(1, 1), whole(1, "a", 5))
	next := string(more(ahead, whole(2, "b", 5)).Data[141:])
	spoilt := []byte(next)
	spoilt[50] ^= 1
	far := more(ahead, gone(7), whole(2, "b", 5))
	for _, behind := range []string{
		"", "x", "\x00", "\x00\x00\x00\x00", strings.Repeat("\x00", 300), strings.Repeat("\xff", 300),
		next[:1], next[:4], next[:8], next[:115], string(spoilt), next[1:],
		string(far.Data[158:]),
		string(renamed(file(2, head(2, 1), whole(1, "a", 5), whole(2, "b", 5)), 1).Data[141:]),
		"x" + next,
	} {
		f := ended(ahead, behind)
		wantWhole(t, f, 141)
		wantSame(t, fmt.Sprintf("%.40q behind it", behind), read(ahead), read(f))
	}
	wantWhole(t, ended(ahead, next), 257)
}

// Segments: how many bytes are safe is not looked at.
func TestSafeIsNotSeen(t *testing.T) {
	f, _ := mixed(1)
	torn := ended(f, "torn")
	want := read(f)
	for _, safe := range append([]int{1, 24, 25, 26, 141, 506, 507, 508, 511, 512}, farNumbers...) {
		f.Safe, torn.Safe = safe, safe
		wantWhole(t, f, 507)
		wantWhole(t, torn, 507)
		wantSame(t, "safe", want, read(f))
		wantSame(t, "safe", want, read(torn))
	}
}

// permuted calls play with all orders of the files.
func permuted(files []api.File, play func([]api.File)) {
	if len(files) < 2 {
		play(files)
		return
	}
	for i := range files {
		rest := slices.Delete(slices.Clone(files), i, i+1)
		permuted(rest, func(list []api.File) { play(append([]api.File{files[i]}, list...)) })
	}
}

// P12.2: files in any order, among them such as are no segments.
func TestAnyOrder(t *testing.T) {
	files := []api.File{
		file(1, head(1, 1), whole(1, "a", 5), whole(2, "b", 5)),
		file(2, head(2, 3), bury(1, 1), whole(3, "c", 1)),
		file(10, head(10, 4), gone(2), whole(1, "d", 2)),
		file(11, head(2, 100), whole(50, "e", 2)),
		file(1<<40, head(1<<40, 4), bury(3, 1)),
	}
	want := says{
		files: []int{1, 2, 10, 1 << 40},
		all: []api.Placed{
			{File: 1, Place: 0, Size: 25, Record: head(1, 1)},
			{File: 1, Place: 25, Size: 116, Record: whole(1, "a", 5)},
			{File: 1, Place: 141, Size: 116, Record: whole(2, "b", 5)},
			{File: 2, Place: 0, Size: 25, Record: head(2, 3)},
			{File: 2, Place: 25, Size: 97, Record: bury(1, 1)},
			{File: 2, Place: 122, Size: 116, Record: whole(3, "c", 1)},
			{File: 10, Place: 0, Size: 25, Record: head(10, 4)},
			{File: 10, Place: 25, Size: 17, Record: gone(2)},
			{File: 10, Place: 42, Size: 116, Record: whole(1, "d", 2)},
			{File: 1 << 40, Place: 0, Size: 25, Record: head(1<<40, 4)},
			{File: 1 << 40, Place: 25, Size: 97, Record: bury(3, 1)},
		},
		jobs: []api.Stored{ready(1, "d", 2), buried(ready(3, "c", 1), 1)},
		at:   []int{10, 2},
		next: 4,
	}
	n := 0
	permuted(files, func(list []api.File) { n++; wantSays(t, Read(list), want) })
	if n != 120 {
		t.Errorf("%d orders", n)
	}
}

// P12.2: of several files of one number the first one is looked at alone.
func TestSameNums(t *testing.T) {
	a := file(1, head(1, 1), whole(1, "a", 5))
	b := file(1, head(1, 7), whole(2, "b", 5), gone(1))
	none := file(1, whole(3, "c", 5))
	empty := api.File{Num: 1}
	two := file(2, head(2, 3), whole(4, "d", 5))
	three := file(3, head(3, 3), gone(4))
	zero := api.File{Num: 0, Data: a.Data}
	ones := []api.File{a, b, none, empty}
	for first := range ones {
		for second := range ones {
			want := read(ones[first], two, three)
			for _, files := range [][]api.File{
				{ones[first], ones[second], two, three},
				{ones[first], two, ones[second], three},
				{two, ones[first], three, ones[second]},
				{three, two, ones[first], ones[second]},
				{three, ones[first], ones[second], ones[second], ones[first], two, two, three},
				{zero, three, ones[first], zero, two, ones[second], file(2, head(2, 99)), file(3, head(3, 99))},
			} {
				wantSame(t, fmt.Sprint("the ones ", first, second), want, Read(files))
			}
		}
	}
	wantFiles(t, read(empty, a))
	wantFiles(t, read(a, empty), 1)
	wantNone(t, none, a, b, empty)
}

// P12.2: many files of few numbers, so many that a sort that isn't stable would be seen.
func TestManySameNums(t *testing.T) {
	dice := rand.New(rand.NewSource(12))
	var files []api.File
	firsts := map[int]int{}
	for i := range 1000 {
		num := 1 + dice.Intn(5)
		files = append(files, file(num, head(num, 1), whole(i+1, "a", 5)))
		if firsts[num] == 0 {
			firsts[num] = i + 1
		}
	}
	l := Read(files)
	wantFiles(t, l, 1, 2, 3, 4, 5)
	if jobs := l.Jobs(); len(jobs) != 5 {
		t.Errorf("%d jobs; want 5", len(jobs))
	}
	for num, id := range firsts {
		wantAt(t, l, id, num)
	}
}

// P12.3: rising, with gaps, the ends of what a number may be among them.
func TestFiles(t *testing.T) {
	nums := []int{1, 2, 3, 9, 10, 11, 255, 256, 1 << 31, 1 << 32, 1<<32 + 1, 1<<40 - 1, 1 << 40}
	dice := rand.New(rand.NewSource(3))
	for range 20 {
		var files []api.File
		for _, i := range dice.Perm(len(nums)) {
			files = append(files, file(nums[i], head(nums[i], 1)))
		}
		wantFiles(t, Read(files), nums...)
	}
}

// full is a job all of whose fields have numbers of their own.
func full(id int) api.Stored {
	return api.Stored{Id: id, Pri: 11, Delay: 12, TTR: 13, Born: 14, State: api.Delayed, Due: 15, Counts: api.Counts{Reserves: 16, Timeouts: 17, Releases: 18, Buries: 19, Kicks: 20}, Tube: "full", Body: []byte("body")}
}

// P12.5: a whole record makes the job just as it says, whether it is there or not.
func TestWholeRecords(t *testing.T) {
	most := api.Stored{Id: 1 << 40, Pri: 1<<32 - 1, Delay: 1<<32 - 1, TTR: 1<<32 - 1, Born: 1 << 40, State: api.Buried, Order: 1<<62 - 1, Counts: api.Counts{Reserves: 1<<62 - 1, Timeouts: 1<<62 - 1, Releases: 1<<62 - 1, Buries: 1<<62 - 1, Kicks: 1<<62 - 1}, Tube: strings.Repeat("t", 200), Body: bytes.Repeat([]byte{0, 13, 10, 255, 'x'}, 13107)}
	for _, j := range []api.Stored{ready(1, "a", 0), full(1), buried(full(1), 3), most, {Id: 2, TTR: 1, State: api.Ready, Tube: "t"}} {
		wantJobs(t, read(file(1, head(1, 1), of(j))), j)
		for _, old := range []api.Stored{ready(j.Id, "old", 1), full(j.Id)} {
			wantJobs(t, read(file(1, head(1, 1), of(old), of(j))), j)
			wantJobs(t, read(file(1, head(1, 1), of(old)), file(2, head(2, 1), of(j))), j)
			wantJobs(t, read(file(1, head(1, 1), of(old), gone(old.Id)), file(2, head(2, 1), of(j))), j)
			wantJobs(t, read(file(1, head(1, 1), of(j), of(old))), old)
		}
	}
}

// shorts are short records of a job, each of another state.
func shorts(id int) []api.Record {
	counts := api.Counts{Reserves: 31, Timeouts: 32, Releases: 33, Buries: 34, Kicks: 35}
	return []api.Record{
		{Kind: api.RecShort, Job: api.Stored{Id: id, State: api.Ready}},
		{Kind: api.RecShort, Job: api.Stored{Id: id, Pri: 36, Delay: 37, State: api.Ready, Counts: counts}},
		{Kind: api.RecShort, Job: api.Stored{Id: id, Pri: 38, Delay: 39, State: api.Delayed, Due: 40, Counts: counts}},
		{Kind: api.RecShort, Job: api.Stored{Id: id, Pri: 41, Delay: 42, State: api.Buried, Order: 43, Counts: counts}},
	}
}

// P12.5: of a short record the job has what it says, and keeps the rest.
func TestShortRecords(t *testing.T) {
	for _, old := range []api.Stored{full(5), ready(5, "r", 8), buried(ready(5, "b", 8), 2), {Id: 5, TTR: 1, State: api.Ready, Tube: "t"}} {
		for _, r := range shorts(5) {
			s := r.Job
			want := api.Stored{Id: 5, Pri: s.Pri, Delay: s.Delay, TTR: old.TTR, Born: old.Born, State: s.State, Due: s.Due, Order: s.Order, Counts: s.Counts, Tube: old.Tube, Body: old.Body}
			here := read(file(1, head(1, 1), of(full(4)), of(old), r, of(full(6))))
			wantJobs(t, here, full(4), want, full(6))
			wantAt(t, here, 5, 1)
			there := read(file(1, head(1, 1), of(full(4)), of(old)), file(2, head(2, 1), r, of(full(6))))
			wantJobs(t, there, full(4), want, full(6))
			wantAt(t, there, 5, 1)
			wantAt(t, there, 6, 2)
		}
	}
}

// P12.5: a short record of a job that is not there is nothing: never was, is gone, comes later, is another one.
func TestShortOfNone(t *testing.T) {
	for _, r := range shorts(5) {
		wantJobs(t, read(file(1, head(1, 1), r)))
		wantJobs(t, read(file(1, head(1, 1), of(full(4)), r)), full(4))
		wantJobs(t, read(file(1, head(1, 1), of(full(5)), gone(5), r)))
		wantJobs(t, read(file(1, head(1, 1), of(full(5))), file(2, head(2, 1), gone(5)), file(3, head(3, 1), r)))
		wantJobs(t, read(file(1, head(1, 1), r, of(full(5)))), full(5))
		l := read(file(1, head(1, 1), r, of(full(5)), gone(5), r))
		wantJobs(t, l)
		wantAt(t, l, 5, 0)
	}
}

// P12.5: several short records, the last of which holds; gone and there anew, it has nothing of what it was.
func TestShortsAndGones(t *testing.T) {
	list := shorts(5)
	l := read(file(1, append([]api.Record{head(1, 1), of(full(5))}, list...)...))
	want := list[3].Job
	want.TTR, want.Born, want.Tube, want.Body = 13, 14, "full", []byte("body")
	wantJobs(t, l, want)
	l = read(file(1, head(1, 1), of(full(5)), list[3], gone(5), whole(5, "new", 1)), file(2, head(2, 1), list[1]))
	want = list[1].Job
	want.TTR, want.Tube, want.Body = 9, "new", []byte("x")
	wantJobs(t, l, want)
	wantAt(t, l, 5, 1)
}

// P12.5: a job that goes is there no more; one that was not there may go too, and go twice.
func TestGone(t *testing.T) {
	l := read(file(1, head(1, 1), gone(2), whole(1, "a", 1), whole(2, "b", 2), whole(3, "c", 3), gone(2), gone(2), gone(9)))
	wantJobs(t, l, ready(1, "a", 1), ready(3, "c", 3))
	wantAt(t, l, 2, 0)
	wantNext(t, l, 4)
	l = read(file(1, head(1, 1), whole(1, "a", 1)), file(2, head(2, 2), gone(1)))
	wantJobs(t, l)
	wantNext(t, l, 2)
	wantFiles(t, l, 1, 2)
}

// P12.5: by rising ids, however they stand in the log.
func TestRising(t *testing.T) {
	dice := rand.New(rand.NewSource(5))
	ids := []int{1, 2, 3, 9, 10, 11, 255, 256, 1 << 31, 1 << 32, 1<<32 + 1, 1<<40 - 1, 1 << 40}
	var want []api.Stored
	for _, id := range ids {
		want = append(want, ready(id, "a", 5))
	}
	for range 20 {
		files := []api.File{file(1, head(1, 1)), file(2, head(2, 1)), file(3, head(3, 1))}
		for _, i := range dice.Perm(len(ids)) {
			k := dice.Intn(3)
			files[k] = more(files[k], of(want[i]))
		}
		wantJobs(t, Read(files), want...)
	}
}

// P12.6: the file of the last whole record, not that of a short one, nor of an earlier one.
func TestAt(t *testing.T) {
	l := read(
		file(3, head(3, 1), whole(1, "a", 1), whole(2, "b", 1), whole(3, "c", 1), whole(4, "d", 1)),
		file(5, head(5, 1), bury(1, 1), whole(2, "b", 1), gone(3), whole(4, "d", 1)),
		file(8, head(8, 1), whole(3, "e", 1), bury(2, 2), gone(4), bury(4, 3)),
	)
	for id, want := range []int{0, 3, 5, 8, 0, 0} {
		wantAt(t, l, id, want)
	}
	for _, id := range farNumbers {
		wantAt(t, l, id, 0)
	}
	for _, id := range []int{1 << 32, 1<<32 + 1, -3, 1 << 40} {
		wantAt(t, l, id, 0)
	}
}

// P12.6: a job with the greatest id in the greatest file.
func TestAtGreatest(t *testing.T) {
	l := read(file(1<<40, head(1<<40, 1), whole(1<<40, "a", 1)))
	wantAt(t, l, 1<<40, 1<<40)
	wantAt(t, l, 0, 0)
}

// P12.7: heads and whole records count, of jobs that are gone too; short ones and gone ones do not.
func TestNext(t *testing.T) {
	for _, c := range []struct {
		want  int
		files []api.File
	}{
		{1, nil},
		{1, []api.File{file(1, head(1, 1))}},
		{2, []api.File{file(1, head(1, 2))}},
		{2, []api.File{file(1, head(1, 1), whole(1, "a", 1))}},
		{2, []api.File{file(1, head(1, 2), whole(1, "a", 1))}},
		{3, []api.File{file(1, head(1, 3), whole(1, "a", 1))}},
		{8, []api.File{file(1, head(1, 3), whole(7, "a", 1), whole(2, "a", 1))}},
		{8, []api.File{file(1, head(1, 3), whole(7, "a", 1), gone(7))}},
		{3, []api.File{file(1, head(1, 3), gone(7), bury(8, 1), gone(1<<40))}},
		{9, []api.File{file(1, head(1, 9)), file(2, head(2, 4))}},
		{9, []api.File{file(1, head(1, 4)), file(2, head(2, 9))}},
		{9, []api.File{file(1, head(1, 4), whole(8, "a", 1)), file(2, head(2, 4))}},
		{9, []api.File{file(1, head(1, 4)), file(2, head(2, 4), whole(8, "a", 1), gone(8))}},
		{4, []api.File{file(1, head(1, 4)), file(2, head(1, 9)), file(3, whole(8, "a", 1))}},
		{4, []api.File{file(1, head(1, 4)), file(1, head(1, 9))}},
		{1 << 40, []api.File{file(1, head(1, 1<<40))}},
		{1<<40 + 1, []api.File{file(1, head(1, 1<<40+1))}},
		{1<<40 + 1, []api.File{file(1, head(1, 1), whole(1<<40, "a", 1))}},
		{1<<40 + 1, []api.File{file(1, head(1, 1<<40+1), whole(1<<40, "a", 1))}},
		{1 << 40, []api.File{file(1, head(1, 1), whole(1<<40-1, "a", 1))}},
		{1<<32 + 2, []api.File{file(1, head(1, 1), whole(1<<32+1, "a", 1))}},
	} {
		wantNext(t, Read(c.files), c.want)
	}
}

// P12.4: what is told of each record, the fields of all kinds among it, and bodies of all sizes.
func TestAll(t *testing.T) {
	var list []api.Record
	list = append(list, head(6, 1<<40+1))
	for _, size := range []int{0, 1, 2, 100, 65534, 65535} {
		j := full(size + 1)
		j.Tube, j.Body = strings.Repeat("t", 1+size%200), bytes.Repeat([]byte{'b'}, size)
		list = append(list, of(j))
	}
	list = append(list, shorts(1)...)
	list = append(list, gone(1), gone(1<<40), whole(1, "again", 1))
	var want []api.Placed
	place := 0
	for _, r := range list {
		r.Job = plainBody(r.Job)
		want = append(want, api.Placed{File: 6, Place: place, Size: record.Size(r), Record: r})
		place += record.Size(r)
	}
	l := read(ended(file(6, list...), "behind"))
	wantAll(t, l, want...)
	wantAll(t, l, want...)
}

// logOf is a log with two segments of three records each.
func logOf() (*Log, []api.Placed) {
	l := read(file(2, head(2, 3), bury(1, 1), gone(2)), file(1, head(1, 1), whole(1, "a", 5), whole(2, "b", 5)))
	return l, []api.Placed{
		{File: 1, Place: 0, Size: 25, Record: head(1, 1)},
		{File: 1, Place: 25, Size: 116, Record: whole(1, "a", 5)},
		{File: 1, Place: 141, Size: 116, Record: whole(2, "b", 5)},
		{File: 2, Place: 0, Size: 25, Record: head(2, 3)},
		{File: 2, Place: 25, Size: 97, Record: bury(1, 1)},
		{File: 2, Place: 122, Size: 17, Record: gone(2)},
	}
}

// P12.4, R6: left early at each place, and gone through again.
func TestAllLeftEarly(t *testing.T) {
	l, want := logOf()
	seq := l.All()
	for stop := 1; stop <= len(want); stop++ {
		var got []api.Placed
		for p := range seq {
			got = append(got, p)
			if len(got) == stop {
				break
			}
		}
		for i, p := range got {
			got[i].Record.Job = plainBody(p.Record.Job)
		}
		if !reflect.DeepEqual(got, want[:stop]) {
			t.Errorf("left at %d: %s; want %s", stop, show(got), show(want[:stop]))
		}
		n := 0
		seq(func(api.Placed) bool { n++; return n < stop })
		if n != stop {
			t.Errorf("called %d times, though told to stop at %d", n, stop)
		}
	}
	wantAll(t, l, want...)
}

// P12.4, R6: never nil, also of a log without records.
func TestAllOfNone(t *testing.T) {
	for _, l := range []*Log{read(), read(api.File{Num: 1}), Read([]api.File{})} {
		seq := l.All()
		if seq == nil {
			t.Fatal("All() = nil")
		}
		for p := range seq {
			t.Errorf("it gives %v", p)
		}
	}
}

// P12.4, R6: gone through within itself.
func TestAllWithinItself(t *testing.T) {
	l, want := logOf()
	seq := l.All()
	n := 0
	for outer := range seq {
		outer.Record.Job = plainBody(outer.Record.Job)
		if !reflect.DeepEqual(outer, want[n]) {
			t.Errorf("outer %s; want %s", show(outer), show(want[n]))
		}
		if got := told(seq); !reflect.DeepEqual(got, want) {
			t.Errorf("within: %s; want %s", show(got), show(want))
		}
		for range seq {
			break
		}
		n++
	}
	if n != len(want) {
		t.Errorf("%d records; want %d", n, len(want))
	}
}

// P12.4, R6: two that are pulled side by side go their own ways.
func TestAllPulled(t *testing.T) {
	l, want := logOf()
	seq := l.All()
	one, stopOne := iter.Pull(seq)
	defer stopOne()
	two, stopTwo := iter.Pull(seq)
	one()
	for i := 1; i < len(want); i++ {
		a, ok := one()
		b, also := two()
		if a.Place != want[i].Place || b.Place != want[i-1].Place || !ok || !also {
			t.Errorf("%d: %v, %v; %v, %v", i, a, ok, b, also)
		}
	}
	stopTwo()
	if p, ok := one(); ok {
		t.Errorf("one: %v; want the end", p)
	}
}

// P12.9: each beginning of each segment, with something behind it that begins no right frame.
func TestBeginnings(t *testing.T) {
	one, ends := mixed(1)
	two := file(2, head(2, 5), whole(4, "d", 1), bury(2, 1), whole(1, "e", 2))
	ahead := told(read(one).All())
	behind := told(read(two).All())
	for size := 25; size <= len(one.Data); size++ {
		end := wholeOf(ends, size)
		beginning := cut(one, end)
		want := read(beginning, two)
		var list []api.Placed
		for _, p := range ahead {
			if p.Place < end {
				list = append(list, p)
			}
		}
		wantAll(t, want, append(list, behind...)...)
		wantFiles(t, want, 1, 2)
		for _, rest := range []string{string(one.Data[end:size]), "", "\x00", strings.Repeat("\x00", size), "other bytes that are no frame", string(one.Data[:25])} {
			if _, _, err := frame.Take(1, end, []byte(rest)); err == api.OK {
				continue
			}
			f := ended(beginning, rest)
			wantWhole(t, f, end)
			wantSame(t, fmt.Sprintf("%d bytes, and %.20q", end, rest), want, read(two, f))
		}
	}
}

// P12.9: of the head's frame all bytes are needed.
func TestHeadIsNeeded(t *testing.T) {
	one, _ := mixed(1)
	two := file(2, head(2, 5), whole(4, "d", 1), bury(2, 1))
	want := read(two)
	for size := range 25 {
		wantSame(t, fmt.Sprintf("%d bytes", size), want, read(cut(one, size), two))
	}
}

// randomJob is one of few jobs.
func randomJob(dice *rand.Rand) api.Stored {
	j := api.Stored{
		Id: 1 + dice.Intn(12), Pri: dice.Intn(5), Delay: dice.Intn(5), TTR: 1 + dice.Intn(5), Born: dice.Intn(5),
		Counts: api.Counts{Reserves: dice.Intn(3), Timeouts: dice.Intn(3), Releases: dice.Intn(3), Buries: dice.Intn(3), Kicks: dice.Intn(3)},
		Tube:   string(rune('a' + dice.Intn(4))),
		Body:   []byte(strings.Repeat("b", dice.Intn(4))),
	}
	switch dice.Intn(3) {
	case 0:
		j.State = api.Ready
	case 1:
		j.State, j.Due = api.Delayed, 1+dice.Intn(9)
	default:
		j.State, j.Order = api.Buried, 1+dice.Intn(9)
	}
	return j
}

// randomRecord is a record that is no head.
func randomRecord(dice *rand.Rand) api.Record {
	j := randomJob(dice)
	switch dice.Intn(4) {
	case 0:
		return gone(j.Id)
	case 1:
		j.TTR, j.Born, j.Tube, j.Body = 0, 0, "", nil
		return api.Record{Kind: api.RecShort, Job: j}
	}
	return of(j)
}

// randomSegment is a segment with some records, and what they are.
func randomSegment(dice *rand.Rand, num int) (api.File, []api.Record) {
	list := []api.Record{head(num, 1+dice.Intn(15))}
	for range dice.Intn(8) {
		list = append(list, randomRecord(dice))
	}
	return file(num, list...), list
}

// P12.10: without the oldest segment, where no job needs it.
func TestOldestAway(t *testing.T) {
	dice := rand.New(rand.NewSource(10))
	away, kept := 0, 0
	for range 5000 {
		var files []api.File
		num := 0
		for range 2 + dice.Intn(3) {
			num += 1 + dice.Intn(3)
			f, _ := randomSegment(dice, num)
			files = append(files, f)
		}
		all := Read(files)
		jobs := all.Jobs()
		if slices.ContainsFunc(jobs, func(j api.Stored) bool { return all.At(j.Id) == files[0].Num }) {
			kept++
			continue
		}
		away++
		rest := Read(files[1:])
		wantJobs(t, rest, jobs...)
		for _, j := range jobs {
			wantAt(t, rest, j.Id, all.At(j.Id))
		}
		made := Read(files[:1]).Next()
		if slices.ContainsFunc(told(rest.All()), func(p api.Placed) bool { return p.Record.Next >= made }) {
			wantNext(t, rest, all.Next())
		}
		if t.Failed() {
			return
		}
	}
	if away < 500 || kept < 500 {
		t.Errorf("%d times the oldest was not needed, %d times it was", away, kept)
	}
}

// P12.11: each job is written anew at the end.
func TestMoving(t *testing.T) {
	dice := rand.New(rand.NewSource(11))
	moved := 0
	for range 1000 {
		var files []api.File
		for num := range 1 + dice.Intn(3) {
			f, _ := randomSegment(dice, num+1)
			files = append(files, f)
		}
		last := len(files) - 1
		l := Read(files)
		for _, j := range l.Jobs() {
			changed := slices.Clone(files)
			changed[last] = more(files[last], of(j))
			after := Read(changed)
			wantJobs(t, after, l.Jobs()...)
			wantNext(t, after, l.Next())
			for _, other := range l.Jobs() {
				at := l.At(other.Id)
				if other.Id == j.Id {
					at = files[last].Num
				}
				wantAt(t, after, other.Id, at)
			}
			moved++
		}
		if t.Failed() {
			return
		}
	}
	if moved < 1000 {
		t.Errorf("%d jobs moved", moved)
	}
}

// R3: nil lists and empty ones.
func TestNilAndEmpty(t *testing.T) {
	wantSays(t, Read(nil), says{next: 1})
	wantSays(t, Read([]api.File{}), says{next: 1})
	wantSays(t, Read(make([]api.File, 3)), says{next: 1})
	j := ready(1, "a", 5)
	j.Body = nil
	one := read(file(1, head(1, 1), of(j)))
	j.Body = []byte{}
	other := read(file(1, head(1, 1), of(j)))
	wantSame(t, "an empty body", one, other)
	if body := one.Jobs()[0].Body; len(body) != 0 {
		t.Errorf("the body is %q", body)
	}
}

// scribble writes all over a list's bytes, its spare room too.
func scribble(b []byte) {
	b = b[:cap(b)]
	for i := range b {
		b[i] ^= 0xff
	}
}

// R4, P12.8: what is handed in is not changed, nor the spare room behind it.
func TestHandedInStays(t *testing.T) {
	one, _ := mixed(1)
	two := file(2, head(2, 5), whole(4, "d", 1))
	room := func(f api.File) api.File {
		data := append(bytes.Clone(f.Data), "spare room"...)
		return api.File{Num: f.Num, Data: data[:len(f.Data)], Safe: f.Safe}
	}
	list := []api.File{room(two), room(one), room(two), room(api.File{Num: 9}), room(one), {Num: 3, Data: []byte("spare")}}
	files := list[:5]
	want := make([]api.File, len(list))
	for i, f := range list {
		want[i] = api.File{Num: f.Num, Data: bytes.Clone(f.Data[:cap(f.Data)]), Safe: f.Safe}
	}
	l := Read(files)
	sayingOf(l)
	for _, f := range files {
		Whole(f)
	}
	for i, f := range list {
		if f.Num != want[i].Num || f.Safe != want[i].Safe || !bytes.Equal(f.Data[:cap(f.Data)], want[i].Data) {
			t.Errorf("file %d became %d, %.40q", i, f.Num, f.Data)
		}
	}
}

// R4, P12.8: what is handed in is not kept.
func TestHandedInIsNotKept(t *testing.T) {
	one, _ := mixed(1)
	two := file(2, head(2, 5), whole(4, "d", 1), bury(2, 1))
	files := []api.File{two, one}
	l := Read(files)
	seq := l.All()
	want := sayingOf(l)
	next, stop := iter.Pull(seq)
	defer stop()
	next()
	scribble(one.Data)
	scribble(two.Data)
	files[0], files[1] = api.File{}, api.File{}
	wantSays(t, l, want)
	if got := told(seq); !reflect.DeepEqual(got, want.all) {
		t.Errorf("an iterator gives %s; want %s", show(got), show(want.all))
	}
	if p, ok := next(); !ok || !reflect.DeepEqual(p, want.all[1]) {
		t.Errorf("a range that had begun gives %s, %v", show(p), ok)
	}
}

// R4, P12.8: whatever is written into an answer, no other one shows it.
func TestToldIsNew(t *testing.T) {
	list := []api.Record{head(1, 1)}
	for id := range 20 {
		j := ready(id+1, "a", 5)
		j.Body = bytes.Repeat([]byte("b"), id)
		list = append(list, of(j))
	}
	l := read(file(1, append(list, bury(7, 1))...), file(2, head(2, 1), bury(8, 2)))
	want := sayingOf(l)
	files, jobs, placed := l.Files(), l.Jobs(), slices.Collect(l.All())
	for i := range files[:cap(files)] {
		files[:cap(files)][i] = 99
	}
	for _, j := range jobs {
		scribble(j.Body)
	}
	clear(jobs[:cap(jobs)])
	wantSays(t, l, want)
	for i, p := range placed {
		p.Record.Job = plainBody(p.Record.Job)
		if !reflect.DeepEqual(p, want.all[i]) {
			t.Errorf("an earlier record became %s; it was %s", show(p), show(want.all[i]))
		}
		scribble(placed[i].Record.Job.Body)
	}
	wantSays(t, l, want)
	for p := range l.All() {
		scribble(p.Record.Job.Body)
	}
	wantSays(t, l, want)
}

// R4: no two bodies of one answer share memory, nor their spare rooms.
func TestBodiesAreApart(t *testing.T) {
	j := ready(1, "a", 5)
	var list []api.Record
	for id := range 30 {
		j.Id, j.Body = id+1, bytes.Repeat([]byte{'a' + byte(id%26)}, id)
		list = append(list, of(j))
	}
	l := read(file(1, append([]api.Record{head(1, 1)}, list...)...))
	jobs := l.Jobs()
	for i := range jobs {
		scribble(jobs[i].Body)
		for k, other := range jobs[i+1:] {
			if !bytes.Equal(other.Body, list[i+1+k].Job.Body) {
				t.Fatalf("the body of %d shows in that of %d: %q", i+1, other.Id, other.Body)
			}
		}
	}
	var bodies [][]byte
	for p := range l.All() {
		bodies = append(bodies, p.Record.Job.Body)
	}
	for i, body := range bodies {
		scribble(body)
		for k, other := range bodies[i+1:] {
			if want := list[i+k].Job.Body; !bytes.Equal(other, want) {
				t.Fatalf("the body of record %d shows in that of %d: %q", i, i+1+k, other)
			}
		}
	}
}

// R5: two logs know nothing of each other, and asking changes nothing.
func TestLogsAreApart(t *testing.T) {
	one, _ := mixed(1)
	a := read(one)
	want := sayingOf(a)
	b := read(file(1, head(1, 9), whole(2, "other", 1), gone(1)))
	other := sayingOf(b)
	for range 3 {
		wantSays(t, a, want)
		wantSays(t, b, other)
	}
	if reflect.DeepEqual(want, other) {
		t.Error("the two say the same")
	}
}

// plainRecords reads a file's records by their places, one behind the other.
func plainRecords(f api.File) []api.Placed {
	var list []api.Placed
	place := 0
	for {
		p, size, err := frame.Take(f.Num, place, f.Data[place:])
		if err != api.OK {
			return list
		}
		r, problem := record.Get(p)
		first := len(list) == 0
		if problem != api.OK || first != (r.Kind == api.RecHead) || first && r.File != f.Num {
			return list
		}
		r.Job = plainBody(r.Job)
		list = append(list, api.Placed{File: f.Num, Place: place, Size: size, Record: r})
		place += size
	}
}

// plainSays is what a log tells, each job looked for anew among the records, from the last one back.
func plainSays(files []api.File) says {
	s := says{next: 1}
	for _, f := range firsts(files) {
		if list := plainRecords(f); len(list) > 0 {
			s.files = append(s.files, f.Num)
			s.all = append(s.all, list...)
		}
	}
	for _, p := range s.all {
		s.next = max(s.next, p.Record.Next)
		if p.Record.Kind == api.RecWhole {
			s.next = max(s.next, p.Record.Job.Id+1)
		}
	}
	for id := 1; id < 20; id++ {
		if j, at := plainJob(s.all, id); at > 0 {
			s.jobs = append(s.jobs, j)
			s.at = append(s.at, at)
		}
	}
	return s
}

// firsts are the files by their numbers, of each number the first one.
func firsts(files []api.File) []api.File {
	var list []api.File
	for i, f := range files {
		if !slices.ContainsFunc(files[:i], func(e api.File) bool { return e.Num == f.Num }) {
			at := 0
			for at < len(list) && list[at].Num < f.Num {
				at++
			}
			list = slices.Insert(list, at, f)
		}
	}
	return list
}

// plainJob is a job as records make it, and its file; 0: it is not there.
func plainJob(all []api.Placed, id int) (api.Stored, int) {
	var short *api.Stored
	for i := len(all) - 1; i >= 0; i-- {
		r := all[i].Record
		switch {
		case r.Kind == api.RecGone && r.Id == id:
			return api.Stored{}, 0
		case r.Kind == api.RecShort && r.Job.Id == id && short == nil:
			short = &r.Job
		case r.Kind == api.RecWhole && r.Job.Id == id:
			j := r.Job
			if short != nil {
				j.Pri, j.Delay, j.State, j.Due, j.Order, j.Counts = short.Pri, short.Delay, short.State, short.Due, short.Order, short.Counts
			}
			return j, all[i].File
		}
	}
	return api.Stored{}, 0
}

// randomFile is a segment or something like one: torn, spoilt, of another number, with more behind it.
func randomFile(dice *rand.Rand) api.File {
	num := 1 + dice.Intn(5)
	f, _ := randomSegment(dice, num)
	switch dice.Intn(12) {
	case 0:
		f = cut(f, dice.Intn(len(f.Data)+1))
	case 1:
		f = cut(f, len(f.Data))
		f.Data[dice.Intn(len(f.Data))] ^= 1 << dice.Intn(8)
	case 2:
		f = renamed(f, dice.Intn(6)-1)
	case 3:
		f = more(f, head(1+dice.Intn(5), 1+dice.Intn(99)), randomRecord(dice))
	case 4:
		wrong := wrongPayloads()
		f = more(add(f, wrong[dice.Intn(len(wrong))]), randomRecord(dice))
	case 5:
		f = ended(f, string(f.Data[:dice.Intn(len(f.Data)+1)]))
	case 6:
		f = file(num, randomRecord(dice), head(num, 50))
	case 7:
		f = file(num, head(1+dice.Intn(5), 60), randomRecord(dice))
	}
	f.Safe = dice.Intn(2000) - 500
	return f
}

// All promises: random files against what is read plainly.
func TestAgainstPlain(t *testing.T) {
	dice := rand.New(rand.NewSource(1))
	segments, others, jobs := 0, 0, 0
	for range 8000 {
		var files []api.File
		for range dice.Intn(6) {
			files = append(files, randomFile(dice))
		}
		want := plainSays(files)
		wantSays(t, Read(files), want)
		for _, f := range files {
			end := 0
			if list := plainRecords(f); len(list) > 0 {
				end = list[len(list)-1].Place + list[len(list)-1].Size
			}
			wantWhole(t, f, end)
		}
		segments += len(want.files)
		others += len(firsts(files)) - len(want.files)
		jobs += len(want.jobs)
		if t.Failed() {
			return
		}
	}
	if segments < 5000 || others < 1500 || jobs < 10000 {
		t.Errorf("%d segments, %d other files, %d jobs", segments, others, jobs)
	}
}

// R1: any bytes whatever, also such as begin with a right head.
func TestAnyBytes(t *testing.T) {
	dice := rand.New(rand.NewSource(2))
	start := file(1, head(1, 1))
	for range 3000 {
		data := make([]byte, dice.Intn(300))
		dice.Read(data)
		if dice.Intn(2) == 0 { // small lengths, so that frames may seem to be there
			for i := range data {
				data[i] &= 3
			}
		}
		wantNone(t, api.File{Num: 1, Data: data})
		f := ended(start, string(data))
		wantWhole(t, f, 25)
		wantSame(t, "a head alone", read(start), read(f))
	}
}

// wantSoon fails if something takes as long as no right program would need.
func wantSoon(t *testing.T, start time.Time) {
	t.Helper()
	if d := time.Since(start); d > 60*time.Second {
		t.Errorf("it took %v", d)
	}
}

// greatFile is a segment of that many records of one frame's size, made fast.
func greatFile(num, count int, of func(i int) api.Record) api.File {
	var data bytes.Buffer
	for i := range count + 1 {
		r := head(num, 1)
		if i > 0 {
			r = of(i)
		}
		made, _ := frame.Make(num, data.Len(), payload(r))
		data.Write(made)
	}
	return api.File{Num: num, Data: data.Bytes()}
}

// R1: a great file of many small records, and one with many jobs.
func TestGreatFile(t *testing.T) {
	start := time.Now()
	const count = 300000
	f := greatFile(1, count, func(i int) api.Record { return gone(i) })
	wantWhole(t, f, 25+17*count)
	l := read(f)
	wantJobs(t, l)
	wantNext(t, l, 1)
	n := 0
	for range l.All() {
		n++
	}
	if n != count+1 {
		t.Errorf("%d records; want %d", n, count+1)
	}
	f = greatFile(2, count/3, func(i int) api.Record { return whole(count-i, "a", 5) })
	l = read(f)
	jobs := l.Jobs()
	if len(jobs) != count/3 || jobs[0].Id != count-count/3 || !slices.IsSortedFunc(jobs, func(x, y api.Stored) int { return x.Id - y.Id }) {
		t.Errorf("%d jobs", len(jobs))
	}
	for _, j := range jobs {
		if l.At(j.Id) != 2 {
			t.Fatalf("At(%d) = %d", j.Id, l.At(j.Id))
		}
	}
	wantNext(t, l, count)
	wantSoon(t, start)
}

// R1: many small files, also many of one number.
func TestManyFiles(t *testing.T) {
	start := time.Now()
	const count = 50000
	var files []api.File
	for i := range count {
		num := count - i
		files = append(files, file(num, head(num, 1), whole(num, "a", 5)))
	}
	l := Read(files)
	if nums := l.Files(); len(nums) != count || !slices.IsSorted(nums) {
		t.Errorf("%d files", len(nums))
	}
	wantAt(t, l, 777, 777)
	wantNext(t, l, count+1)
	for i := range files {
		files[i] = files[0]
	}
	wantFiles(t, Read(files), count)
	wantSoon(t, start)
}

// R1: the greatest records, as many as the greatest quota has room for.
func TestGreatBodies(t *testing.T) {
	start := time.Now()
	j := ready(1, strings.Repeat("t", 200), 5)
	j.Body = bytes.Repeat([]byte("b"), 65535)
	var files []api.File
	const count = 64
	for num := 1; num <= count; num++ {
		list := []api.Record{head(num, 1)}
		for k := range 15 {
			j.Id = num*15 + k
			list = append(list, of(j))
		}
		files = append(files, file(num, list...))
	}
	l := Read(files)
	n := 0
	for p := range l.All() {
		n += p.Size
	}
	if want := count * (25 + 15*(114+200+65535)); n != want {
		t.Errorf("%d bytes; want %d", n, want)
	}
	if jobs := l.Jobs(); len(jobs) != count*15 || len(jobs[0].Body) != 65535 {
		t.Errorf("%d jobs", len(jobs))
	}
	wantSoon(t, start)
}

// What is kept is not more than the log needs: nothing of what stands behind the records, nor of files that are not looked at.
func TestRestIsNotKept(t *testing.T) {
	start := file(1, head(1, 1), whole(1, "a", 5))
	great := ended(start, strings.Repeat("x", 1<<24))
	before := heapBytes()
	var logs []*Log
	for range 8 {
		logs = append(logs, read(great, renamed(great, 7), ended(start, "y")))
	}
	if after := heapBytes(); after-before > 1<<24 {
		t.Errorf("8 logs of 141 bytes have %d bytes", after-before)
	}
	for _, l := range logs {
		wantNext(t, l, 2)
	}
	runtime.KeepAlive(great)
}

func heapBytes() int {
	runtime.GC()
	runtime.GC()
	var m runtime.MemStats
	runtime.ReadMemStats(&m)
	return int(m.HeapAlloc)
}

// R5: calls side by side, on one log and on many.
func TestSideBySide(t *testing.T) {
	one, _ := mixed(1)
	files := []api.File{file(2, head(2, 5), whole(4, "d", 1), bury(2, 1)), one}
	shared := Read(files)
	want := sayingOf(shared)
	var group sync.WaitGroup
	for range 8 {
		group.Go(func() {
			for range 100 {
				if got := sayingOf(shared); !reflect.DeepEqual(got, want) {
					t.Errorf("it says %s; want %s", show(got), show(want))
				}
				if got := sayingOf(Read(files)); !reflect.DeepEqual(got, want) {
					t.Errorf("another one says %s; want %s", show(got), show(want))
				}
				if n, is := Whole(one); n != 507 || !is {
					t.Errorf("Whole = %d, %v", n, is)
				}
			}
		})
	}
	group.Wait()
}
