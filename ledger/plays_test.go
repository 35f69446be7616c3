package ledger

import (
	"bytes"
	"fmt"
	"math/rand"
	"reflect"
	"runtime"
	"slices"
	"strings"
	"sync"
	"testing"
	"time"

	"stint/api"
	"stint/disk"
)

// randomConfig is a config in which room is scarce, mostly.
func randomConfig(dice *rand.Rand) api.Config {
	list := []api.Config{small, conf(1, 128, 1024), conf(1, 129, 1500), conf(1, 200, 1024), conf(1, 256, 2048), conf(1, 400, 1600), conf(1, 128, 4096), conf(1, 1024, 4096)}
	return list[dice.Intn(len(list))]
}

func randomBody(dice *rand.Rand) []byte {
	size := dice.Intn(4)
	switch dice.Intn(8) {
	case 0:
		size = dice.Intn(60)
	case 1:
		size = dice.Intn(300)
	}
	body := make([]byte, size)
	dice.Read(body)
	return body
}

func randomPut(dice *rand.Rand) api.Stored {
	j := api.Stored{
		Id: dice.Intn(9) - 2, Pri: dice.Intn(3), Delay: dice.Intn(3), TTR: 1 + dice.Intn(2), Born: dice.Intn(3), State: api.Ready,
		Tube: []string{"a", "b", "default"}[dice.Intn(3)], Body: randomBody(dice), Counts: api.Counts{Reserves: dice.Intn(2), Kicks: dice.Intn(2)},
	}
	if dice.Intn(3) == 0 {
		j.State, j.Due = api.Delayed, 1+dice.Intn(5)
	}
	if dice.Intn(12) == 0 {
		j = spoilt(dice, j)
	}
	return j
}

// spoilt is a job that may not be, or (of the last ones) is another one.
func spoilt(dice *rand.Rand, j api.Stored) api.Stored {
	switch dice.Intn(9) {
	case 0:
		j.State, j.Due, j.Order = api.Buried, 0, 1+dice.Intn(3)
	case 1:
		j.State = api.Reserved
	case 2:
		j.Pri = -1
	case 3:
		j.Due = 1 << 50
	case 4:
		j.Tube = "-"
	case 5:
		j.TTR++
	case 6:
		j.Born++
	case 7:
		j.Tube += "x"
	case 8:
		j.Body = append(slices.Clone(j.Body), 0)
	}
	return j
}

// randomChange is a stored job as another one; now and then one that may not be, or is not there.
func randomChange(dice *rand.Rand, jobs []api.Stored, next int, bury bool) api.Stored {
	j := ready(dice.Intn(next + 2))
	if len(jobs) > 0 {
		j = jobs[dice.Intn(len(jobs))]
	}
	j.Pri, j.Delay, j.State, j.Due, j.Order = dice.Intn(1<<32), dice.Intn(5), api.Ready, 0, 0
	j.Counts = api.Counts{Reserves: dice.Intn(3), Timeouts: dice.Intn(3), Releases: dice.Intn(3), Buries: dice.Intn(3), Kicks: dice.Intn(3)}
	if bury {
		j.State, j.Order = api.Buried, 1+dice.Intn(9)
	} else if dice.Intn(3) == 0 {
		j.State, j.Due = api.Delayed, 1+dice.Intn(9)
	}
	if dice.Intn(10) == 0 {
		j = spoilt(dice, j)
	}
	if dice.Intn(10) == 0 {
		j.Id = dice.Intn(next+3) - 1
	}
	return j
}

// call is a change as it is asked for. Kind: 0 put, 1 change, 2 bury, 3 gone.
type call struct {
	kind, id int
	job      api.Stored
}

func randomCall(dice *rand.Rand, jobs []api.Stored, next, greed int) call {
	switch n := dice.Intn(10 + greed); {
	case n < 2:
		return call{kind: 1, job: randomChange(dice, jobs, next, false)}
	case n < 5:
		return call{kind: 2, job: randomChange(dice, jobs, next, true)}
	case n < 8:
		return call{kind: 3, id: randomChange(dice, jobs, next, false).Id}
	}
	return call{kind: 0, job: randomPut(dice)}
}

func (c call) on(l *Ledger) (int, []api.Act, api.Errno) {
	switch c.kind {
	case 0:
		return l.Put(c.job)
	case 1:
		acts, err := l.Change(c.job)
		return 0, acts, err
	case 2:
		acts, err := l.Bury(c.job)
		return 0, acts, err
	}
	acts, err := l.Gone(c.id)
	return 0, acts, err
}

func (c call) onPlain(p *plain) (int, []api.Act, api.Errno) {
	switch c.kind {
	case 0:
		return p.put(c.job)
	case 1:
		acts, err := p.change(c.job)
		return 0, acts, err
	case 2:
		acts, err := p.bury(c.job)
		return 0, acts, err
	}
	acts, err := p.gone(c.id)
	return 0, acts, err
}

// made is what the jobs are behind a call that was not refused, with nothing but the jobs looked at.
func (c call) made(jobs []api.Stored, id int) []api.Stored {
	jobs = slices.Clone(jobs)
	switch c.kind {
	case 0:
		return append(jobs, plainBody(withId(c.job, id)))
	case 3:
		return slices.DeleteFunc(jobs, func(j api.Stored) bool { return j.Id == c.id })
	}
	for i, j := range jobs {
		if j.Id == c.job.Id {
			jobs[i] = plainBody(c.job)
		}
	}
	return jobs
}

// wantAlike holds a ledger against a plain one.
func wantAlike(t *testing.T, what string, l *Ledger, p *plain) {
	t.Helper()
	if got, want := tellsOf(l), p.tells(); !reflect.DeepEqual(got, want) {
		t.Fatalf("%s: it tells %s; want %s", what, show(got), show(want))
	}
}

func wantSameAnswer(t *testing.T, what string, c call, l *Ledger, p *plain) ([]api.Act, int, api.Errno) {
	t.Helper()
	id, acts, err := c.on(l)
	wantId, wantActs, wantErr := c.onPlain(p)
	if id != wantId || err != wantErr || !sameActs(acts, wantActs) {
		t.Fatalf("%s: %s answers %d, %s, %d; want %d, %s, %d", what, show(c), id, showActs(acts), err, wantId, showActs(wantActs), wantErr)
	}
	wantAlike(t, what, l, p)
	return acts, id, err
}

// doAll does acts to a disk, which refuses none.
func doAll(t *testing.T, what string, d *disk.Disk, acts []api.Act) {
	t.Helper()
	for _, a := range acts {
		if err := d.Do(a); err != api.OK {
			t.Fatalf("%s: the disk refuses %s: %d", what, showActs([]api.Act{a}), err)
		}
	}
}

// wantOnDisk is P14.9 behind some calls.
func wantOnDisk(t *testing.T, what string, l *Ledger, d *disk.Disk, c api.Config) {
	t.Helper()
	if d.Used() != l.Used() {
		t.Fatalf("%s: Used() = %d, the disk's is %d", what, l.Used(), d.Used())
	}
	files := d.Files()
	for _, f := range files {
		if f.Safe != len(f.Data) {
			t.Fatalf("%s: of file %d %d bytes are safe, of %d", what, f.Num, f.Safe, len(f.Data))
		}
	}
	if oldest, newest := l.Files(); files[0].Num != oldest || files[len(files)-1].Num != newest {
		t.Fatalf("%s: Files() = %d, %d, the disk's are %d, %d", what, oldest, newest, files[0].Num, files[len(files)-1].Num)
	}
	o, acts, err := Open(c, files)
	if err != api.OK || len(acts) != 0 {
		t.Fatalf("%s: opened: %d, %s", what, err, showActs(acts))
	}
	want := tellsOf(l)
	want.moved, want.written = 0, 0
	if got := tellsOf(o); !reflect.DeepEqual(got, want) {
		t.Fatalf("%s: opened it tells %s; want %s", what, show(got), show(want))
	}
}

// wantEmptyAgain is P14.14.
func wantEmptyAgain(t *testing.T, what string, l *Ledger) {
	t.Helper()
	oldest, newest := l.Files()
	if len(l.Jobs()) == 0 && newest != 1<<40 && (oldest != newest || l.Used() != 25) {
		t.Fatalf("%s: without jobs the files are %d to %d, with %d bytes", what, oldest, newest, l.Used())
	}
}

// P14.3 to P14.7, P14.9, P14.11, P14.14: random plays against a plain ledger and on a disk.
func TestAgainstPlain(t *testing.T) {
	moves, refused, empties := 0, 0, 0
	for seed := range 250 {
		dice := rand.New(rand.NewSource(int64(seed)))
		c := randomConfig(dice)
		b := begun(t, c)
		p, _, _ := plainNew(c)
		greed := dice.Intn(8) - 3
		for n := range 80 {
			what := fmt.Sprint("seed ", seed, ", step ", n)
			acts, _, err := wantSameAnswer(t, what, randomCall(dice, b.l.Jobs(), b.l.Next(), greed), b.l, p)
			doAll(t, what, b.d, acts)
			wantOnDisk(t, what, b.l, b.d, c)
			wantEmptyAgain(t, what, b.l)
			if b.l.Room() < 0 {
				t.Fatalf("%s: Room() = %d", what, b.l.Room())
			}
			if err == api.ErrLedgerRoom {
				refused++
			}
			if err == api.OK && len(b.l.Jobs()) == 0 {
				empties++
			}
		}
		moves += b.l.Moved()
	}
	if moves < 500 || refused < 500 || empties < 100 {
		t.Errorf("the plays are too tame: %d moves, %d refused for room, %d empty", moves, refused, empties)
	}
}

// randomFile is a file with some records, right or not, and some bytes behind them.
func randomFile(dice *rand.Rand, num int) api.File {
	if dice.Intn(6) == 0 {
		return api.File{Num: num, Data: randomBody(dice)}
	}
	list := []api.Record{head(num, 1+dice.Intn(12))}
	for range dice.Intn(7) {
		id := 1 + dice.Intn(8)
		switch dice.Intn(4) {
		case 0:
			list = append(list, gone(id))
		case 1:
			list = append(list, short(buried(ready(id), 1+dice.Intn(4))))
		default:
			j := ready(id)
			j.Body = randomBody(dice)
			list = append(list, whole(j))
		}
	}
	f := fileOf(num, list...)
	if dice.Intn(3) == 0 {
		f.Data = f.Data[:dice.Intn(len(f.Data))]
	}
	if dice.Intn(3) == 0 {
		f = ended(f, string(randomBody(dice)))
	}
	f.Safe = dice.Intn(100) - 10
	return f
}

func randomFiles(dice *rand.Rand) []api.File {
	var files []api.File
	for range dice.Intn(6) {
		num := 1 + dice.Intn(12)
		if dice.Intn(12) == 0 {
			num = 1<<40 - dice.Intn(3)
		}
		f := randomFile(dice, num)
		if dice.Intn(60) == 0 {
			f.Num = farNumbers[dice.Intn(len(farNumbers))]
		}
		files = append(files, f)
	}
	return files
}

// P14.2: any files against a plain opening, and what goes on behind it; P14.14.
func TestOpenAgainstPlain(t *testing.T) {
	rights := 0
	for seed := range 6000 {
		dice := rand.New(rand.NewSource(int64(seed)))
		c := randomConfig(dice)
		files := randomFiles(dice)
		l, acts, err := Open(c, files)
		p, wantActs, wantErr := plainOpen(c, files)
		what := fmt.Sprint("seed ", seed)
		if err != wantErr || (l == nil) != (p == nil) || !sameActs(acts, wantActs) {
			t.Fatalf("%s: Open: %d, %s; want %d, %s", what, err, showActs(acts), wantErr, showActs(wantActs))
		}
		if l == nil {
			continue
		}
		rights++
		wantAlike(t, what, l, p)
		wantEmptyAgain(t, what, l)
		for n := range 12 {
			what := fmt.Sprint("seed ", seed, ", step ", n)
			wantSameAnswer(t, what, randomCall(dice, l.Jobs(), l.Next(), 0), l, p)
			wantEmptyAgain(t, what, l)
		}
	}
	if rights < 3000 {
		t.Errorf("only %d of the lists could be opened", rights)
	}
}

// crasher is a ledger on a disk whose power goes now and then.
type crasher struct {
	t     *testing.T
	dice  *rand.Rand
	c     api.Config
	l     *Ledger
	d     *disk.Disk
	jobs  []api.Stored // as the records make them
	given int          // the greatest id that a put whose acts were all done has answered
	what  string

	lost, kept, below, moves int // how often a record that was laid and not safe was lost, was kept; the room was below 0; a job was moved
}

// keep tells what a crash keeps of each file: nothing, all, or some of it.
func (k *crasher) keep() []int {
	var keep []int
	for _, f := range k.d.Files() {
		unsafe := len(f.Data) - f.Safe
		keep = append(keep, []int{0, unsafe, k.dice.Intn(400) - 100}[k.dice.Intn(3)])
	}
	return keep
}

// broken does a beginning of acts, crashes, and tells how many were done.
func (k *crasher) broken(acts []api.Act) int {
	k.t.Helper()
	n := k.dice.Intn(len(acts) + 1)
	doAll(k.t, k.what, k.d, acts[:n])
	k.d.Crash(k.keep())
	return n
}

// reopen opens what is left, and crashes while it does so, till it once comes through.
func (k *crasher) reopen() {
	k.t.Helper()
	for {
		l, acts, err := Open(k.c, k.d.Files())
		if err != api.OK {
			k.t.Fatalf("%s: Open: %d", k.what, err)
		}
		if k.dice.Intn(3) == 0 {
			k.broken(acts)
			continue
		}
		doAll(k.t, k.what, k.d, acts)
		k.l = l
		return
	}
}

// check is P14.10 and P14.11 of what stands there.
func (k *crasher) check() {
	k.t.Helper()
	if got := plainBodies(k.l.Jobs()); !slices.EqualFunc(got, k.jobs, func(x, y api.Stored) bool { return reflect.DeepEqual(x, y) }) {
		k.t.Fatalf("%s: the jobs are %s; want %s", k.what, show(got), show(k.jobs))
	}
	if k.l.Next() <= k.given {
		k.t.Fatalf("%s: Next() = %d, and %d was given", k.what, k.l.Next(), k.given)
	}
	if k.l.Used()+k.l.Held() > k.c.Quota {
		k.t.Fatalf("%s: %d bytes are used and %d held, of %d", k.what, k.l.Used(), k.l.Held(), k.c.Quota)
	}
	wantOnDisk(k.t, k.what, k.l, k.d, k.c)
	wantEmptyAgain(k.t, k.what, k.l)
}

// laid tells how many of a change's acts have to be done till its own record is laid down; one more, and it is safe.
func laid(acts []api.Act) int {
	return slices.IndexFunc(acts, func(a api.Act) bool { return a.Kind == api.ActSync })
}

// step does one call, or crashes in it.
func (k *crasher) step(greed int) {
	k.t.Helper()
	c, moved := randomCall(k.dice, k.l.Jobs(), k.l.Next(), greed), k.l.Moved()
	id, acts, err := c.on(k.l)
	if err == api.ErrLedgerRoom && c.kind == 3 {
		k.t.Fatalf("%s: Gone is refused for room", k.what)
	}
	if err != api.OK {
		return
	}
	k.moves += k.l.Moved() - moved
	after := c.made(k.jobs, id)
	if k.dice.Intn(4) > 0 {
		doAll(k.t, k.what, k.d, acts)
		k.jobs = after
		k.given = max(k.given, id)
		return
	}
	n := k.broken(acts)
	k.reopen()
	there := reflect.DeepEqual(plainBodies(k.l.Jobs()), plainBodies(after))
	if n > laid(acts) || n == laid(acts) && there {
		k.jobs = after
	}
	if n == laid(acts) && there {
		k.kept++
	} else if n == laid(acts) {
		k.lost++
	}
	if k.l.Room() < 0 {
		k.below++
	}
	if n == len(acts) {
		k.given = max(k.given, id)
	}
}

// wantAllEnds is P14.12: every job that is not buried can be buried, and all can go, in any order.
func (k *crasher) wantAllEnds() {
	k.t.Helper()
	l, d := k.l.Clone(), k.d.Clone()
	jobs := l.Jobs()
	k.dice.Shuffle(len(jobs), func(i, j int) { jobs[i], jobs[j] = jobs[j], jobs[i] })
	for _, j := range jobs {
		if j.State == api.Buried {
			continue
		}
		acts, err := l.Bury(buried(j, 1<<62-1))
		if err != api.OK {
			k.t.Fatalf("%s: Bury(%d): %d", k.what, j.Id, err)
		}
		doAll(k.t, k.what, d, acts)
	}
	k.dice.Shuffle(len(jobs), func(i, j int) { jobs[i], jobs[j] = jobs[j], jobs[i] })
	for _, j := range jobs {
		acts, err := l.Gone(j.Id)
		if err != api.OK {
			k.t.Fatalf("%s: Gone(%d): %d", k.what, j.Id, err)
		}
		doAll(k.t, k.what, d, acts)
	}
	if len(l.Jobs()) != 0 {
		k.t.Fatalf("%s: jobs are left: %s", k.what, show(l.Jobs()))
	}
	wantEmptyAgain(k.t, k.what, l)
}

// P14.10 to P14.12, P14.14: random plays in which the power goes, in the middle of calls and of openings.
func TestCrashes(t *testing.T) {
	lost, kept, below, moves := 0, 0, 0, 0
	for seed := range 1000 {
		dice := rand.New(rand.NewSource(int64(seed)))
		c := randomConfig(dice)
		d, _ := disk.New(c.Quota)
		k := &crasher{t: t, dice: dice, c: c, d: d, what: fmt.Sprint("seed ", seed)}
		k.reopen()
		greed := dice.Intn(8) - 3
		for n := range 60 {
			k.what = fmt.Sprint("seed ", seed, ", step ", n)
			k.step(greed)
			k.check()
			k.wantAllEnds()
		}
		lost, kept, below, moves = lost+k.lost, kept+k.kept, below+k.below, moves+k.moves
	}
	if lost < 500 || kept < 300 || below < 10 || moves < 2000 {
		t.Errorf("the plays are too tame: %d records lost, %d kept, the room below 0 %d times, %d moves", lost, kept, below, moves)
	}
}

// P14.10: a put is broken off behind each act, with each number of bytes kept.
func TestCrashEverywhere(t *testing.T) {
	b := begun(t, small)
	b.put(sized(0, 231))
	before := tellsOf(b.l)
	_, acts, err := b.l.Put(ready(0))
	wantOK(t, err)
	wantActs(t, acts, create(2), add(2, 0, head(2, 2)), add(2, 25, whole(ready(2))), syncOf(2))
	for n := range len(acts) + 1 {
		for keep := range 142 {
			d := b.d.Clone()
			doAll(t, "broken off", d, acts[:n])
			d.Crash([]int{0, keep})
			l, more, err := Open(small, d.Files())
			wantOK(t, err)
			doAll(t, "opened", d, more)
			rest := 0
			for _, f := range d.Files() {
				rest += len(f.Data)
			}
			if n == 4 || n == 3 && keep == 141 {
				wantJobs(t, l, sized(1, 231), ready(2))
				wantActs(t, more)
			} else {
				wantJobs(t, l, sized(1, 231))
				if n == 0 && !reflect.DeepEqual(tellsOf(l), tells{before.jobs, before.at, 2, before.used, before.held, before.room, 1, 1, 0, 0}) {
					t.Errorf("it tells %s", show(tellsOf(l)))
				}
			}
			if l.Used() != rest || l.Next() != 2+len(l.Jobs())-1 {
				t.Errorf("broken off behind %d acts, %d bytes kept: Used() = %d, the disk's is %d, Next() = %d", n, keep, l.Used(), rest, l.Next())
			}
		}
	}
}

// breakOff does a call if the job 1 is there as it was, lets the power go behind n of its acts, and opens what is left.
func (b *bench) breakOff(n int, change func(l *Ledger) (int, []api.Act, api.Errno)) {
	b.t.Helper()
	if b.l.Held() != 164 {
		return
	}
	_, acts, err := change(b.l)
	wantOK(b.t, err)
	doAll(b.t, "broken off", b.d, acts[:min(n, len(acts))])
	b.d.Crash(nil)
	l, acts := opened(b.t, small, b.d.Files()...)
	b.l = l
	b.done(acts, api.OK)
	if l.Used()+l.Held() > 1024 {
		b.t.Errorf("%d bytes are used and %d held", l.Used(), l.Held())
	}
}

// P14.10 to P14.12: without any room a bury, or a going, is broken off behind each act, twice; and then is done.
func TestCrashWithoutRoom(t *testing.T) {
	calls := []func(l *Ledger) (int, []api.Act, api.Errno){buryOf(buried(sized(1, 810), 1)), goneOf(1)}
	for n := range 10 * 10 * 4 {
		first, second := n/4%10, n/40
		b := begun(t, small)
		b.put(sized(0, 810))
		if b.l.Room() != 0 || b.l.extra() != 25 {
			t.Fatalf("the test's ledger has the room %d", b.l.Room())
		}
		b.breakOff(first, calls[n%2])
		if first >= 1 && first <= 3 && b.l.Room() != -25 {
			t.Errorf("behind a crash that left a file's beginning Room() = %d; want -25", b.l.Room())
		}
		b.breakOff(second, calls[n/2%2])
		if j, there := b.l.Get(1); there {
			if j.State != api.Buried {
				b.bury(buried(j, 2))
			}
			b.gone(1)
		}
		wantEmptyAgain(t, "at the end", b.l)
		wantOnDisk(t, "at the end", b.l, b.d, small)
	}
}

// P14.12: whatever was done to others behind a put, the job can be buried and then go.
func TestNeverRefused(t *testing.T) {
	for seed := range 150 {
		dice := rand.New(rand.NewSource(int64(seed)))
		c := randomConfig(dice)
		b := begun(t, c)
		b.put(ready(0))
		for n := range 60 {
			what := fmt.Sprint("seed ", seed, ", step ", n)
			var others []api.Stored
			for _, j := range b.l.Jobs() {
				if j.Id != 1 {
					others = append(others, j)
				}
			}
			next := randomCall(dice, others, 1, 5)
			if next.kind != 0 && (next.id == 1 || next.job.Id == 1) {
				continue
			}
			_, acts, err := next.on(b.l)
			if err == api.OK {
				doAll(t, what, b.d, acts)
			}
			end := &bench{t, b.l.Clone(), b.d.Clone()}
			end.bury(buried(ready(1), 1<<62-1))
			end.gone(1)
		}
	}
}

// P14.13: what is told hangs on the calls that were not refused, not on files, room and moves.
func TestMovesAreNotSeen(t *testing.T) {
	moves := 0
	for seed := range 150 {
		dice := rand.New(rand.NewSource(int64(seed)))
		l, _, _ := New(randomConfig(dice))
		calm, _, _ := New(conf(1, 1<<20, 1<<26))
		next := 1
		var jobs []api.Stored
		for n := range 80 {
			c := randomCall(dice, l.Jobs(), l.Next(), 1)
			id, _, err := c.on(l)
			if err != api.OK {
				continue
			}
			if other, _, err := c.on(calm); other != id || err != api.OK {
				t.Fatalf("seed %d, step %d: the other ledger answers %d, %d", seed, n, other, err)
			}
			jobs = c.made(jobs, id)
			if c.kind == 0 {
				next++
			}
			for _, x := range []*Ledger{l, calm} {
				if got := plainBodies(x.Jobs()); !slices.EqualFunc(got, jobs, func(a, b api.Stored) bool { return reflect.DeepEqual(a, b) }) || x.Next() != next {
					t.Fatalf("seed %d, step %d: Jobs() = %s, Next() = %d; want %s, %d", seed, n, show(got), x.Next(), show(jobs), next)
				}
			}
			for id := range next + 1 {
				x, there := l.Get(id)
				y, also := calm.Get(id)
				if there != also || !reflect.DeepEqual(plainBody(x), plainBody(y)) {
					t.Fatalf("seed %d, step %d: Get(%d) = %v, %v; the other one's are %v, %v", seed, n, id, x, there, y, also)
				}
			}
		}
		moves += l.Moved()
		if calm.Moved() != 0 {
			t.Errorf("the other ledger has moved %d", calm.Moved())
		}
	}
	if moves < 300 {
		t.Errorf("the plays are too tame: %d moves", moves)
	}
}

// P14.8: clones of clones go their own ways, each like a plain one.
func TestClones(t *testing.T) {
	for seed := range 120 {
		dice := rand.New(rand.NewSource(int64(seed)))
		c := randomConfig(dice)
		l, _, _ := New(c)
		p, _, _ := plainNew(c)
		ledgers, plains := []*Ledger{l}, []*plain{p}
		for n := range 120 {
			what := fmt.Sprint("seed ", seed, ", step ", n)
			i := dice.Intn(len(ledgers))
			if len(ledgers) < 6 && dice.Intn(12) == 0 {
				ledgers, plains = append(ledgers, ledgers[i].Clone()), append(plains, plains[i].clone())
				wantAlike(t, what, ledgers[len(ledgers)-1], plains[i])
			}
			wantSameAnswer(t, what, randomCall(dice, ledgers[i].Jobs(), ledgers[i].Next(), 1), ledgers[i], plains[i])
			for i := range ledgers {
				wantAlike(t, what, ledgers[i], plains[i])
			}
		}
	}
}

// P14.8: a job is moved to the newest file in one of the two alone; in the other one the last job of that file goes last.
func TestCloneAfterMove(t *testing.T) {
	c := conf(1, 4096, 1<<20)
	one := ended(fileOf(1, head(1, 1), whole(ready(1)), whole(ready(2))), strings.Repeat("x", 9000))
	for last := 3; last <= 20; last++ {
		list := []api.Record{head(2, 3)}
		for id := 3; id <= last; id++ {
			list = append(list, whole(ready(id)))
		}
		files := []api.File{one, fileOf(2, list...)}
		l, _ := opened(t, c, files...)
		p, _, _ := plainOpen(c, files)
		other, plainOther := l.Clone(), p.clone()
		what := fmt.Sprint("up to ", last)
		wantSameAnswer(t, what, call{kind: 1, job: ready(1)}, l, p)
		if l.Moved() != 1 || l.File(1) != 2 || other.File(1) != 1 {
			t.Fatalf("%s: nothing was moved", what)
		}
		wantSameAnswer(t, what, call{kind: 0, job: sized(0, 20000)}, other, plainOther)
		wantSameAnswer(t, what, call{kind: 0, job: sized(0, 20000)}, l, p)
		for id := 1; id < last; id++ {
			wantSameAnswer(t, what, call{kind: 3, id: id}, other, plainOther)
			wantSameAnswer(t, what, call{kind: 3, id: id}, l, p)
		}
		wantSameAnswer(t, what, call{kind: 3, id: last + 1}, other, plainOther)
		wantSameAnswer(t, what, call{kind: 3, id: last + 1}, l, p)
	}
}

// scribble writes over a list and its spare room; what is written over twice is not as it was.
func scribble(b []byte) {
	b = b[:cap(b)]
	for i := range b {
		b[i] += 0x35
	}
}

// scribbleActs writes over all of an answer's acts.
func scribbleActs(acts []api.Act) {
	for _, a := range acts {
		scribble(a.Data)
	}
	acts = acts[:cap(acts)]
	for i := range acts {
		acts[i] = api.Act{Kind: 77, File: 77, Size: 77}
	}
}

// roomy is a job whose body has spare room.
func roomy(j api.Stored) api.Stored {
	body := make([]byte, len(j.Body)+40)
	for i := range body {
		body[i] = 'r'
	}
	copy(body, j.Body)
	j.Body = body[:len(j.Body)]
	return j
}

// wantUntouched looks at a body with spare room.
func wantUntouched(t *testing.T, j api.Stored, body []byte) {
	t.Helper()
	rest := j.Body[len(j.Body):cap(j.Body)]
	if !bytes.Equal(j.Body, body) || len(rest) < 40 || strings.Trim(string(rest[:40]), "r") != "" {
		t.Errorf("the body that was handed in is %q, with %q behind it", j.Body, rest)
	}
}

// R4: what is handed in is neither changed nor kept, and whatever a caller writes into answers is seen nowhere.
func TestMemory(t *testing.T) {
	for seed := range 100 {
		dice := rand.New(rand.NewSource(int64(seed)))
		c := randomConfig(dice)
		l, acts, _ := New(c)
		scribbleActs(acts)
		p, _, _ := plainNew(c)
		for n := range 80 {
			what := fmt.Sprint("seed ", seed, ", step ", n)
			next := randomCall(dice, l.Jobs(), l.Next(), 1)
			body := bytes.Clone(next.job.Body)
			next.job = roomy(next.job)
			acts, _, _ := wantSameAnswer(t, what, next, l, p)
			wantUntouched(t, next.job, body)
			scribble(next.job.Body)
			scribbleActs(acts)
			wantAlike(t, what, l, p)
			jobs := l.Jobs()
			for i, j := range jobs {
				scribble(j.Body)
				jobs[i] = api.Stored{}
				got, _ := l.Get(j.Id)
				scribble(got.Body)
			}
			wantAlike(t, what, l, p)
		}
	}
}

// R4: the files that are opened.
func TestOpenMemory(t *testing.T) {
	for seed := range 500 {
		dice := rand.New(rand.NewSource(int64(seed)))
		c := randomConfig(dice)
		files := randomFiles(dice)
		var copies []api.File
		for i, f := range files {
			copies = append(copies, api.File{Num: f.Num, Data: bytes.Clone(f.Data), Safe: f.Safe})
			files[i].Data = roomy(api.Stored{Body: f.Data}).Body
		}
		l, acts, _ := Open(c, files)
		for i, f := range files {
			if f.Num != copies[i].Num || f.Safe != copies[i].Safe {
				t.Fatalf("seed %d: the files that were handed in have changed", seed)
			}
			wantUntouched(t, api.Stored{Body: f.Data}, copies[i].Data)
			scribble(f.Data)
		}
		scribbleActs(acts)
		clear(files)
		p, _, _ := plainOpen(c, copies)
		if l == nil {
			continue
		}
		for n := range 5 {
			what := fmt.Sprint("seed ", seed, ", step ", n)
			wantAlike(t, what, l, p)
			wantSameAnswer(t, what, randomCall(dice, l.Jobs(), l.Next(), 0), l, p)
		}
	}
}

// R4: no two lists of one answer share memory, spare room and all.
func TestListsAreApart(t *testing.T) {
	one := ended(fileOf(1, head(1, 1), whole(ready(1)), whole(ready(2))), strings.Repeat("x", 1000))
	l, _ := opened(t, conf(1, 256, 4096), one, fileOf(2, head(2, 3), short(ready(1)), short(ready(1)), short(ready(1))))
	_, acts, err := l.Put(ready(0))
	wantOK(t, err)
	wantActs(t, acts, create(3), add(3, 0, head(3, 3)), add(3, 25, whole(ready(3))), syncOf(3), add(3, 141, whole(ready(1))), syncOf(3))
	for i := range acts {
		var before [][]byte
		for _, a := range acts {
			before = append(before, bytes.Clone(a.Data))
		}
		scribble(acts[i].Data)
		for k, a := range acts {
			if k != i && !bytes.Equal(a.Data, before[k]) {
				t.Errorf("act %d shows what was written into act %d", k, i)
			}
		}
	}
	jobs := l.Jobs()
	for i := range jobs {
		scribble(jobs[i].Body)
		for k := i + 1; k < len(jobs); k++ {
			if string(jobs[k].Body) != "x" {
				t.Errorf("job %d shows what was written into job %d", k, i)
			}
		}
	}
}

// R3: a nil body and an empty one are the same.
func TestNilAndEmpty(t *testing.T) {
	none, empty := sized(1, 115), sized(1, 115)
	none.Body, empty.Body = nil, []byte{}
	for _, first := range []api.Stored{none, empty} {
		b := begun(t, wide)
		_, acts, err := b.l.Put(first)
		wantActs(t, b.done(acts, err), add(1, 25, whole(none)), syncOf(1))
		b.change(none)
		b.change(empty)
		b.bury(buried(none, 1))
		b.bury(buried(empty, 1))
		if j, there := b.l.Get(1); !there || len(j.Body) != 0 {
			t.Errorf("Get(1) = %v, %v", j, there)
		}
	}
}

// R4: a text of which a tube was a piece, and bodies, are not kept.
func TestNothingIsKept(t *testing.T) {
	b := begun(t, wide)
	before := heapBytes()
	for range 20 {
		text := strings.Repeat("t", 1<<20)
		j := ready(0)
		j.Tube = text[:1]
		j.Body = make([]byte, 1<<20)[:1]
		id := b.put(j)
		j = withId(j, id)
		j.Tube = strings.Repeat("t", 1<<20)[:1]
		j.Body = make([]byte, 1<<20)[:1]
		b.change(j)
	}
	if more := heapBytes() - before; more > 4<<20 {
		t.Errorf("%d bytes more are kept", more)
	}
	runtime.KeepAlive(b)
}

// What is gone is not kept: a long life in a small room.
func TestLongLife(t *testing.T) {
	b := begun(t, small)
	b.put(ready(0))
	before := heapBytes()
	start := time.Now()
	for i := range 200000 {
		id, _, err := b.l.Put(ready(0))
		if err != api.OK {
			t.Fatalf("put %d: %d", i, err)
		}
		if _, err := b.l.Gone(id); err != api.OK {
			t.Fatalf("gone %d: %d", i, err)
		}
	}
	if more := heapBytes() - before; more > 1<<20 {
		t.Errorf("%d bytes more are kept", more)
	}
	wantSoon(t, start)
	if b.l.Next() != 200002 || b.l.Moved() == 0 {
		t.Errorf("Next() = %d, Moved() = %d", b.l.Next(), b.l.Moved())
	}
	wantJobs(t, b.l, ready(1))
}

func heapBytes() int {
	runtime.GC()
	runtime.GC()
	var m runtime.MemStats
	runtime.ReadMemStats(&m)
	return int(m.HeapAlloc)
}

func wantSoon(t *testing.T, start time.Time) {
	t.Helper()
	if took := time.Since(start); took > 60*time.Second {
		t.Errorf("it took %v", took)
	}
}

// R1: as many jobs as ever fit, in the smallest files and in great ones; each is changed, and goes.
func TestManyJobs(t *testing.T) {
	for _, segment := range []int{128, 4096, 1 << 20} {
		start := time.Now()
		l, _, _ := New(conf(1, segment, 1<<25))
		count := 0
		for {
			id, _, err := l.Put(ready(0))
			if err == api.ErrLedgerRoom {
				break
			}
			count++
			if id != count || err != api.OK {
				t.Fatalf("put %d: %d, %d", count, id, err)
			}
		}
		if count < 100000 {
			t.Errorf("only %d jobs fit", count)
		}
		dice := rand.New(rand.NewSource(int64(segment)))
		for _, i := range dice.Perm(count) {
			if _, err := l.Bury(buried(ready(i+1), 1)); err != api.OK {
				t.Fatalf("Bury(%d): %d", i+1, err)
			}
		}
		for _, i := range dice.Perm(count) {
			if _, err := l.Gone(i + 1); err != api.OK {
				t.Fatalf("Gone(%d): %d", i+1, err)
			}
		}
		if len(l.Jobs()) != 0 || l.Used() != 25 || l.Held() != 0 {
			t.Errorf("%d jobs, Used() = %d, Held() = %d", len(l.Jobs()), l.Used(), l.Held())
		}
		wantSoon(t, start)
	}
}

// R1: the greatest jobs.
func TestGreatestJobs(t *testing.T) {
	b := begun(t, wide)
	j := ready(0)
	j.Tube, j.Body = strings.Repeat("t", 200), bytes.Repeat([]byte("b"), 65535)
	for range 20 {
		b.put(j)
	}
	for i := range 10 {
		b.bury(buried(withId(j, 2*i+1), i+1))
	}
	if b.l.Used() != 20*(114+200+65535)+10*97+25*b.newestFile() {
		t.Errorf("Used() = %d", b.l.Used())
	}
	wantOnDisk(t, "the greatest jobs", b.l, b.d, wide)
}

func (b *bench) newestFile() int {
	_, newest := b.l.Files()
	return newest
}

// R5: ledgers side by side, each told apart.
func TestSideBySide(t *testing.T) {
	b := begun(t, small)
	b.put(ready(0))
	b.put(ready(0))
	var group sync.WaitGroup
	for seed := range 8 {
		l := b.l.Clone()
		group.Go(func() {
			dice := rand.New(rand.NewSource(int64(seed)))
			for range 500 {
				randomCall(dice, l.Jobs(), l.Next(), 1).on(l)
			}
		})
	}
	group.Wait()
	wantJobs(t, b.l, ready(1), ready(2))
}
