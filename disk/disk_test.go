package disk

import (
	"bytes"
	"fmt"
	"math"
	"math/big"
	"math/rand"
	"runtime"
	"slices"
	"strings"
	"sync"
	"testing"
	"time"

	"stint/api"
)

func create(num int) api.Act { return api.Act{Kind: api.ActCreate, File: num} }
func sync1(num int) api.Act  { return api.Act{Kind: api.ActSync, File: num} }
func remove(num int) api.Act { return api.Act{Kind: api.ActRemove, File: num} }
func cut(num, size int) api.Act {
	return api.Act{Kind: api.ActCut, File: num, Size: size}
}
func add(num int, text string) api.Act {
	return api.Act{Kind: api.ActAppend, File: num, Data: []byte(text)}
}

// f is a file with a text, of which so many bytes are safe.
func f(num int, text string, safe int) api.File {
	return api.File{Num: num, Data: []byte(text), Safe: safe}
}

func xs(n int) string { return strings.Repeat("x", n) }

// Numbers that are far from what a number of a file, a size or a quota may be, some of which are right if their upper bits are lost.
var farNumbers = []int{math.MinInt, math.MinInt + 1, -1 << 40, -1 << 32, -1024, -1, 1<<40 + 1, 1<<40 + 1024, 1 << 41, 1<<62 - 1, 1<<62 + 1, math.MaxInt - 1, math.MaxInt}

func fresh(t *testing.T, quota int, acts ...api.Act) *Disk {
	t.Helper()
	d, err := New(quota)
	if d == nil || err != api.OK {
		t.Fatalf("New(%d) = %v, %d", quota, d, err)
	}
	wantAll(t, d, acts...)
	return d
}

func loaded(t *testing.T, quota int, files ...api.File) *Disk {
	t.Helper()
	d, err := Load(quota, files)
	if d == nil || err != api.OK {
		t.Fatalf("Load(%d, %s) = %v, %d", quota, show(files), d, err)
	}
	return d
}

// show cuts what is long, so that a failure can be read.
func show(files []api.File) string {
	var text strings.Builder
	for _, x := range files {
		fmt.Fprintf(&text, "{%d, %.40q of %d, %d} ", x.Num, x.Data, len(x.Data), x.Safe)
		if text.Len() > 1000 {
			fmt.Fprintf(&text, ".. %d files", len(files))
			break
		}
	}
	return text.String()
}

// same holds files against each other; nil bytes are no bytes.
func same(x, y []api.File) bool {
	return slices.EqualFunc(x, y, func(a, b api.File) bool {
		return a.Num == b.Num && a.Safe == b.Safe && bytes.Equal(a.Data, b.Data)
	})
}

// wantFiles holds all that a disk tells against the files that it should have.
func wantFiles(t *testing.T, d *Disk, want ...api.File) {
	t.Helper()
	if got := d.Files(); !same(got, want) {
		t.Errorf("Files() = %s; want %s", show(got), show(want))
	}
	used := 0
	for _, x := range want {
		used += len(x.Data)
	}
	if got := d.Used(); got != used {
		t.Errorf("Used() = %d; want %d", got, used)
	}
}

func wantDone(t *testing.T, d *Disk, a api.Act, want api.Errno) {
	t.Helper()
	if got := d.Do(a); got != want {
		t.Errorf("Do({Kind %d, File %d, Data %.40q of %d, Size %d}) = %d; want %d", a.Kind, a.File, a.Data, len(a.Data), a.Size, got, want)
	}
}

func wantAll(t *testing.T, d *Disk, acts ...api.Act) {
	t.Helper()
	for _, a := range acts {
		wantDone(t, d, a, api.OK)
	}
}

// wantRefused does acts that are refused, and looks whether that changes anything.
func wantRefused(t *testing.T, d *Disk, want api.Errno, acts ...api.Act) {
	t.Helper()
	ahead, used := d.Files(), d.Used()
	for _, a := range acts {
		wantDone(t, d, a, want)
		if got := d.Files(); !same(got, ahead) || d.Used() != used {
			t.Errorf("an act that was refused made %s of %s, and %d of %d used", show(got), show(ahead), d.Used(), used)
		}
	}
}

func wantLoad(t *testing.T, quota int, files []api.File, want api.Errno) {
	t.Helper()
	d, err := Load(quota, files)
	if err != want || (d == nil) != (want != api.OK) {
		t.Errorf("Load(%d, %s) = %v, %d; want %d", quota, show(files), d != nil, err, want)
	}
	if want == api.OK && err == api.OK {
		wantFiles(t, d, files...)
	}
}

// exampleDisk is the chapter's d, as it is ahead of its crashes.
func exampleDisk(t *testing.T) *Disk {
	t.Helper()
	return fresh(t, 1024, create(2), add(2, "abc"), sync1(2), add(2, "de"), create(1), add(1, "xyz"))
}

// The chapter's examples, line by line.
func TestExamples(t *testing.T) {
	for _, quota := range []int{1023, 1<<26 + 1} {
		if d, err := New(quota); d != nil || err != api.ErrDiskQuota {
			t.Errorf("New(%d) = %v, %d", quota, d, err)
		}
	}
	d := fresh(t, 1024)
	wantDone(t, d, create(2), api.OK)
	wantDone(t, d, create(2), api.ErrDiskThere)
	wantDone(t, d, create(0), api.ErrDiskFile)
	wantDone(t, d, add(3, "x"), api.ErrDiskNone)
	wantFiles(t, d, f(2, "", 0))
	wantAll(t, d, add(2, "abc"), sync1(2), add(2, "de"), create(1), add(1, "xyz"))
	wantFiles(t, d, f(1, "xyz", 0), f(2, "abcde", 3))
	wantDone(t, d, add(1, xs(1017)), api.ErrDiskFull)
	wantDone(t, d, api.Act{Kind: 6}, api.ErrDiskKind)
	wantFiles(t, d, f(1, "xyz", 0), f(2, "abcde", 3))
	c := d.Clone()
	c.Crash([]int{2, 4})
	wantFiles(t, c, f(1, "xy", 2), f(2, "abcd", 4))
	c = d.Clone()
	c.Crash([]int{-1})
	wantFiles(t, c, f(1, "", 0), f(2, "abc", 3))
	wantDone(t, d, cut(2, 6), api.ErrDiskPlace)
	wantDone(t, d, cut(2, 4), api.OK)
	wantDone(t, d, remove(1), api.OK)
	wantDone(t, d, remove(1), api.ErrDiskNone)
	wantFiles(t, d, f(2, "abcd", 4))
	wantLoad(t, 1024, []api.File{f(1, "a", 1), f(1, "b", 0)}, api.ErrDiskFile)
	wantLoad(t, 1024, []api.File{f(1, "a", 2)}, api.ErrDiskPlace)
	wantLoad(t, 1024, []api.File{f(1, xs(1025), 0)}, api.ErrDiskFull)
}

// The chapter's errors and kinds have their numbers.
func TestNumbers(t *testing.T) {
	got := []api.Errno{api.ErrDiskQuota, api.ErrDiskFile, api.ErrDiskThere, api.ErrDiskNone, api.ErrDiskPlace, api.ErrDiskFull, api.ErrDiskKind}
	for i, err := range got {
		if err != api.Errno(110+i) {
			t.Errorf("%d; want %d", err, 110+i)
		}
	}
	if kinds := []int{api.ActCreate, api.ActAppend, api.ActSync, api.ActCut, api.ActRemove}; !slices.Equal(kinds, []int{1, 2, 3, 4, 5}) {
		t.Errorf("the kinds are %v", kinds)
	}
}

// P11.1, MinQuota, MaxQuota: the ends of what New takes, and far beyond them.
func TestNew(t *testing.T) {
	for _, quota := range append([]int{0, 1, 512, 1022, 1023, 1<<26 + 1, 1 << 27, 1<<32 + 1024, 1<<62 + 1024}, farNumbers...) {
		if d, err := New(quota); d != nil || err != api.ErrDiskQuota {
			t.Errorf("New(%d) = %v, %d; want nil, %d", quota, d != nil, err, api.ErrDiskQuota)
		}
		wantLoad(t, quota, nil, api.ErrDiskQuota)
	}
	for _, quota := range []int{1024, 1025, 4096, 1<<26 - 1, 1 << 26} {
		d := fresh(t, quota)
		wantFiles(t, d)
		for _, num := range []int{0, 1, 2, 1 << 40} {
			wantRefused(t, d, api.ErrDiskNone, sync1(num), add(num, ""), cut(num, 0), remove(num))
		}
		d.Crash([]int{1, 2})
		d.Crash(nil)
		wantFiles(t, d)
		wantFiles(t, d.Clone())
	}
}

// P11.1: two disks have nothing to do with each other.
func TestNewTwice(t *testing.T) {
	d, e := fresh(t, 1024), fresh(t, 1025)
	wantAll(t, d, create(1), add(1, "abc"))
	wantFiles(t, e)
	wantAll(t, e, create(1), add(1, xs(1025)))
	wantRefused(t, d, api.ErrDiskFull, add(1, xs(1022)))
	wantFiles(t, d, f(1, "abc", 0))
}

// P11.1, P11.3, P11.8: a disk has room for its quota, to the byte, in one file and in several, and a Load has the same room.
func TestQuota(t *testing.T) {
	for _, quota := range []int{1024, 1025, 4095, 1 << 20, 1<<26 - 1, 1 << 26} {
		disks := []*Disk{fresh(t, quota, create(1), create(5)), loaded(t, quota, f(1, "", 0), f(5, "", 0))}
		for _, d := range disks {
			wantAll(t, d, add(1, xs(quota/2)))
			wantRefused(t, d, api.ErrDiskFull, add(5, xs(quota-quota/2+1)), add(1, xs(quota-quota/2+1)))
			wantAll(t, d, add(5, xs(quota-quota/2-1)))
			if d.Used() != quota-1 {
				t.Errorf("Used() = %d; want %d", d.Used(), quota-1)
			}
			wantDone(t, d, add(1, "ab"), api.ErrDiskFull)
			wantDone(t, d, add(1, "a"), api.OK)
			wantDone(t, d, add(1, "a"), api.ErrDiskFull)
			wantDone(t, d, add(5, "a"), api.ErrDiskFull)
			wantDone(t, d, add(5, ""), api.OK)
			wantDone(t, d, create(6), api.OK)
			if d.Used() != quota {
				t.Errorf("Used() = %d; want %d", d.Used(), quota)
			}
		}
	}
}

// P11.2: what may be loaded, at the edges of each field.
func TestLoad(t *testing.T) {
	wantLoad(t, 1024, nil, api.OK)
	wantLoad(t, 1024, []api.File{}, api.OK)
	wantLoad(t, 1024, []api.File{{Num: 1}}, api.OK)
	wantLoad(t, 1024, []api.File{{Num: 1 << 40}}, api.OK)
	wantLoad(t, 1024, []api.File{f(1<<40-1, "a", 0), f(1<<40, "b", 1)}, api.OK)
	wantLoad(t, 1024, []api.File{f(1, "abc", 0), f(2, "def", 1), f(3, "ghi", 2), f(900, "jkl", 3), f(901, "", 0)}, api.OK)
	wantLoad(t, 1024, []api.File{f(7, xs(1024), 1024)}, api.OK)
	wantLoad(t, 1024, []api.File{f(7, xs(1023), 3), f(8, "", 0), f(9, "y", 0)}, api.OK)
	wantLoad(t, 1024, []api.File{f(7, xs(1023), 3), f(8, "", 0), f(9, "yy", 0)}, api.ErrDiskFull)
	wantLoad(t, 1024, []api.File{f(7, xs(1025), 3)}, api.ErrDiskFull)
	wantLoad(t, 1<<26, []api.File{f(7, xs(1<<26), 1)}, api.OK)
	wantLoad(t, 1<<26, []api.File{f(7, xs(1<<26), 1), f(8, "x", 1)}, api.ErrDiskFull)
}

// P11.2: numbers that a file may not have, as the first, a middle and the last one.
func TestLoadNumbers(t *testing.T) {
	for _, num := range append([]int{0}, farNumbers...) {
		wantLoad(t, 1024, []api.File{f(num, "a", 0)}, api.ErrDiskFile)
		wantLoad(t, 1024, []api.File{f(num, "a", 0), f(1<<40, "a", 0)}, api.ErrDiskFile)
		wantLoad(t, 1024, []api.File{f(1, "a", 0), f(num, "a", 0), f(1<<40, "a", 0)}, api.ErrDiskFile)
		wantLoad(t, 1024, []api.File{f(1, "a", 0), f(1<<40, "a", 0), f(num, "a", 0)}, api.ErrDiskFile)
	}
	for _, nums := range [][]int{{1, 1}, {2, 1}, {1 << 40, 1 << 40}, {1 << 40, 1}, {1, 3, 2}, {1, 3, 3}, {5, 1, 6}, {1, 2, 3, 4, 1}, {2, 3, 4, 1}} {
		var files []api.File
		for _, num := range nums {
			files = append(files, f(num, "a", 0))
		}
		wantLoad(t, 1024, files, api.ErrDiskFile)
	}
}

// P11.2: as many bytes as a file has may be safe, and no more.
func TestLoadSafe(t *testing.T) {
	for size := range 5 {
		for _, safe := range append([]int{-2, 0, 1, 2, 3, 4, 5, 6, 7, 1 << 32, 1<<32 + 1}, farNumbers...) {
			want := api.ErrDiskPlace
			if 0 <= safe && safe <= size {
				want = api.OK
			}
			wantLoad(t, 1024, []api.File{f(2, xs(size), safe)}, want)
			wantLoad(t, 1024, []api.File{f(1, "abcdefgh", 8), f(2, xs(size), safe)}, want)
			wantLoad(t, 1024, []api.File{f(2, xs(size), safe), f(3, "abcdefgh", 8)}, want)
		}
	}
}

// P11.2, R2: of several errors it is the one that the chapter names first.
func TestLoadOrder(t *testing.T) {
	badNum, badSafe, great := f(0, "a", 0), f(2, "a", 2), f(1, xs(1025), 0)
	for _, quota := range []int{1023, 1<<26 + 1, 0, -1} {
		for _, x := range []api.File{badNum, badSafe, great} {
			wantLoad(t, quota, []api.File{x}, api.ErrDiskQuota)
		}
	}
	wantLoad(t, 1024, []api.File{f(0, "a", 2)}, api.ErrDiskFile)
	wantLoad(t, 1024, []api.File{f(0, xs(1025), -1)}, api.ErrDiskFile)
	wantLoad(t, 1024, []api.File{f(5, "a", 1), f(5, "a", 2)}, api.ErrDiskFile)
	wantLoad(t, 1024, []api.File{f(1, xs(1025), 1026)}, api.ErrDiskPlace)
	// File by file: the first wrong file tells, whatever is wrong with the next one.
	wantLoad(t, 1024, []api.File{badSafe, badNum}, api.ErrDiskPlace)
	wantLoad(t, 1024, []api.File{badSafe, f(2, "a", 0)}, api.ErrDiskPlace)
	wantLoad(t, 1024, []api.File{badNum, badSafe}, api.ErrDiskFile)
	// All files are looked at ahead of their bytes' sum.
	wantLoad(t, 1024, []api.File{great, badNum}, api.ErrDiskFile)
	wantLoad(t, 1024, []api.File{great, badSafe}, api.ErrDiskPlace)
	wantLoad(t, 1024, []api.File{great, f(2, xs(1025), 0), f(3, xs(1025), 9999)}, api.ErrDiskPlace)
	wantLoad(t, 1024, []api.File{great, f(2, "", 0)}, api.ErrDiskFull)
}

// P11.3: kinds that there are not, whatever the act has beside.
func TestDoKinds(t *testing.T) {
	d := exampleDisk(t)
	for _, kind := range append([]int{0, 6, 7, -2, -5, 255, 256, 257, 261, 1 << 32, 1<<32 + 1, 1<<32 + 5}, farNumbers...) {
		wantRefused(t, d, api.ErrDiskKind,
			api.Act{Kind: kind},
			api.Act{Kind: kind, File: 1},
			api.Act{Kind: kind, File: 9},
			api.Act{Kind: kind, File: -1, Data: make([]byte, 2000), Size: -1},
			api.Act{Kind: kind, File: 2, Data: []byte("x"), Size: 1})
	}
}

// P11.3: fields that a kind does not have are not looked at.
func TestDoOtherFields(t *testing.T) {
	great := make([]byte, 2000)
	for _, size := range append([]int{0, 1, 1025}, farNumbers...) {
		d := fresh(t, 1024)
		wantDone(t, d, api.Act{Kind: api.ActCreate, File: 3, Data: great, Size: size}, api.OK)
		wantFiles(t, d, f(3, "", 0))
		wantDone(t, d, api.Act{Kind: api.ActAppend, File: 3, Data: []byte("abc"), Size: size}, api.OK)
		wantFiles(t, d, f(3, "abc", 0))
		wantDone(t, d, api.Act{Kind: api.ActSync, File: 3, Data: great, Size: size}, api.OK)
		wantFiles(t, d, f(3, "abc", 3))
		wantDone(t, d, api.Act{Kind: api.ActCut, File: 3, Data: great, Size: 2}, api.OK)
		wantFiles(t, d, f(3, "ab", 2))
		wantDone(t, d, api.Act{Kind: api.ActRemove, File: 3, Data: great, Size: size}, api.OK)
		wantFiles(t, d)
	}
}

// P11.3, MaxFile: the ends of what may be created.
func TestCreate(t *testing.T) {
	d := fresh(t, 1024)
	wantRefused(t, d, api.ErrDiskFile, create(0))
	for _, num := range farNumbers {
		wantRefused(t, d, api.ErrDiskFile, create(num))
	}
	for _, num := range []int{1 << 40, 1, 1<<40 - 1, 1<<32 + 1, 2} {
		wantDone(t, d, create(num), api.OK)
		wantRefused(t, d, api.ErrDiskThere, create(num))
	}
	wantFiles(t, d, f(1, "", 0), f(2, "", 0), f(1<<32+1, "", 0), f(1<<40-1, "", 0), f(1<<40, "", 0))
}

// P11.3: a file that is there is not created anew, whether it has bytes or not, was created or loaded.
func TestCreateThere(t *testing.T) {
	d := loaded(t, 1024, f(1, "abc", 1), f(2, "", 0), f(3, "de", 2))
	wantRefused(t, d, api.ErrDiskThere, create(1), create(2), create(3))
	wantAll(t, d, cut(1, 0))
	d.Crash(nil)
	wantRefused(t, d, api.ErrDiskThere, create(1), create(2), create(3))
}

// P11.3: bytes stand behind those that there are; what was safe is safe, no more.
func TestAppend(t *testing.T) {
	d := fresh(t, 1024, create(1), create(2))
	wantAll(t, d, add(1, "ab"), add(2, "\x00\xff\r\n"), add(1, "c"), add(1, ""))
	wantFiles(t, d, f(1, "abc", 0), f(2, "\x00\xff\r\n", 0))
	wantDone(t, d, api.Act{Kind: api.ActAppend, File: 1}, api.OK)
	wantAll(t, d, sync1(1), add(1, "de"), add(1, "f"), add(2, "x"))
	wantFiles(t, d, f(1, "abcdef", 3), f(2, "\x00\xff\r\nx", 0))
	wantAll(t, d, cut(1, 5), add(1, "gh"))
	wantFiles(t, d, f(1, "abcdegh", 5), f(2, "\x00\xff\r\nx", 0))
	d = loaded(t, 1024, f(4, "abc", 2))
	wantAll(t, d, add(4, "d"))
	wantFiles(t, d, f(4, "abcd", 2))
}

// P11.3: each byte there is, and many small pieces.
func TestAppendBytes(t *testing.T) {
	d := fresh(t, 1024, create(1))
	var all []byte
	for round := range 4 {
		for n := range 256 {
			wantDone(t, d, api.Act{Kind: api.ActAppend, File: 1, Data: []byte{byte(n)}}, api.OK)
			all = append(all, byte(n))
		}
		wantFiles(t, d, f(1, string(all), 0))
		if d.Used() != 256*(round+1) {
			t.Errorf("Used() = %d", d.Used())
		}
	}
	wantRefused(t, d, api.ErrDiskFull, add(1, "x"))
}

// P11.3, R2: a file that is not there is told ahead of a full disk, or of a wrong size.
func TestNone(t *testing.T) {
	d := fresh(t, 1024, create(2), add(2, "abc"))
	for _, num := range append([]int{0, 1, 3, 1 << 40}, farNumbers...) {
		wantRefused(t, d, api.ErrDiskNone,
			add(num, ""), add(num, "x"), add(num, xs(1024)), add(num, xs(5000)),
			sync1(num), cut(num, 0), cut(num, -1), cut(num, 4), remove(num))
	}
}

// P11.3: all files' bytes count, and what a cut, a removal or a crash let go is free again.
func TestFull(t *testing.T) {
	d := fresh(t, 1024, create(1), create(2), create(3), add(1, xs(500)), add(2, xs(24)), add(3, xs(500)))
	wantRefused(t, d, api.ErrDiskFull, add(1, "y"), add(2, "y"), add(3, "y"), add(2, xs(2000)))
	wantAll(t, d, cut(1, 490))
	wantRefused(t, d, api.ErrDiskFull, add(2, xs(11)))
	wantAll(t, d, add(2, xs(10)))
	wantRefused(t, d, api.ErrDiskFull, add(2, "y"))
	wantAll(t, d, remove(3))
	wantRefused(t, d, api.ErrDiskFull, add(2, xs(501)))
	wantAll(t, d, add(2, xs(500)))
	wantRefused(t, d, api.ErrDiskFull, add(1, "y"))
	d.Crash([]int{0, 33}) // of file 1 all is safe, of file 2 nothing
	wantFiles(t, d, f(1, xs(490), 490), f(2, xs(33), 33))
	wantRefused(t, d, api.ErrDiskFull, add(1, xs(502)))
	wantAll(t, d, add(1, xs(501)))
	wantRefused(t, d, api.ErrDiskFull, add(1, "y"))
	wantRefused(t, loaded(t, 1024, f(1, xs(1000), 0), f(2, xs(24), 24)), api.ErrDiskFull, add(1, "y"), add(2, "y"))
}

// P11.3
func TestSync(t *testing.T) {
	d := fresh(t, 1024, create(1), create(2), sync1(1), add(1, "abc"), add(2, "de"))
	wantFiles(t, d, f(1, "abc", 0), f(2, "de", 0))
	wantAll(t, d, sync1(1))
	wantFiles(t, d, f(1, "abc", 3), f(2, "de", 0))
	wantAll(t, d, sync1(1), add(1, "f"))
	wantFiles(t, d, f(1, "abcf", 3), f(2, "de", 0))
	wantAll(t, d, sync1(2), sync1(1))
	wantFiles(t, d, f(1, "abcf", 4), f(2, "de", 2))
}

// P11.3: a cut to each size, whatever was safe.
func TestCut(t *testing.T) {
	const text = "abcdef"
	for safe := range len(text) + 1 {
		for size := range len(text) + 1 {
			d := loaded(t, 1024, f(1, "one", 1), f(2, text, safe), f(3, "three", 2))
			wantAll(t, d, cut(2, size))
			wantFiles(t, d, f(1, "one", 1), f(2, text[:size], size), f(3, "three", 2))
			wantAll(t, d, add(2, "XY"))
			wantFiles(t, d, f(1, "one", 1), f(2, text[:size]+"XY", size), f(3, "three", 2))
		}
		d := loaded(t, 1024, f(2, text, safe))
		for _, size := range append([]int{-2, -6, 7, 8, 1 << 32, 1<<32 + 3}, farNumbers...) {
			wantRefused(t, d, api.ErrDiskPlace, cut(2, size))
		}
	}
}

// P11.3: what is removed is gone, and a file of its number begins with nothing.
func TestRemove(t *testing.T) {
	d := loaded(t, 1024, f(1, "one", 1), f(2, "two", 3), f(3, "three", 0))
	wantAll(t, d, remove(2))
	wantFiles(t, d, f(1, "one", 1), f(3, "three", 0))
	wantRefused(t, d, api.ErrDiskNone, remove(2), sync1(2), add(2, "x"), cut(2, 0))
	wantAll(t, d, create(2))
	wantFiles(t, d, f(1, "one", 1), f(2, "", 0), f(3, "three", 0))
	wantAll(t, d, add(2, "ab"))
	wantFiles(t, d, f(1, "one", 1), f(2, "ab", 0), f(3, "three", 0))
	wantAll(t, d, remove(3), remove(1), remove(2))
	wantFiles(t, d)
	d.Crash([]int{1})
	wantFiles(t, d)
	wantAll(t, d, create(1), add(1, xs(1024)))
}

// P11.4: the files rise by their numbers as numbers, whatever order they were created in.
func TestRising(t *testing.T) {
	nums := []int{1, 2, 9, 10, 11, 99, 100, 1 << 31, 1<<31 + 1, 1 << 32, 1<<32 + 2, 1<<40 - 1, 1 << 40}
	var want []api.File
	for _, num := range nums {
		want = append(want, f(num, fmt.Sprint(num), 0))
	}
	dice := rand.New(rand.NewSource(11))
	for range 100 {
		d := fresh(t, 1024)
		for _, i := range dice.Perm(len(nums)) {
			wantAll(t, d, create(nums[i]), add(nums[i], fmt.Sprint(nums[i])))
		}
		wantFiles(t, d, want...)
	}
}

// P11.4: telling changes nothing.
func TestTellingChangesNothing(t *testing.T) {
	d := exampleDisk(t)
	for range 5 {
		wantFiles(t, d, f(1, "xyz", 0), f(2, "abcde", 3))
		d.Clone()
	}
}

// P11.5: each number that chance may say, for each number of bytes that are safe and that are not.
func TestCrash(t *testing.T) {
	const text = "abcdefghijkl"
	for size := range len(text) + 1 {
		for safe := range size + 1 {
			for x := -40; x <= 40; x++ {
				d := loaded(t, 1024, f(7, text[:size], safe))
				d.Crash([]int{x})
				n := safe + plainKept(size-safe, x)
				wantFiles(t, d, f(7, text[:n], n))
			}
		}
	}
}

// plainKept counts round and round the numbers of bytes that may be kept, from 0 to all that are not safe.
func plainKept(unsafe, x int) int {
	if x < 0 {
		x = -x - 1
	}
	n := 0
	for range x {
		n++
		if n > unsafe {
			n = 0
		}
	}
	return n
}

// greatKept is what a crash keeps of bytes that are not safe, by numbers without bounds.
func greatKept(unsafe, x int) int {
	n := big.NewInt(int64(x))
	if n.Sign() < 0 {
		n.Neg(n.Add(n, big.NewInt(1)))
	}
	return int(n.Mod(n, big.NewInt(int64(unsafe)+1)).Int64())
}

// P11.5: the greatest and the least numbers, and such as are others if their upper bits are lost.
func TestCrashFarNumbers(t *testing.T) {
	for _, size := range []int{0, 1, 2, 3, 6, 7, 100, 255, 256, 1000} {
		for _, safe := range []int{0, size / 3, size} {
			for _, x := range append([]int{1 << 31, 1 << 32, 1<<32 + 1, -1<<32 - 1, 1<<63 - 2}, farNumbers...) {
				d := loaded(t, 1024, f(7, xs(size), safe))
				d.Crash([]int{x})
				n := safe + greatKept(size-safe, x)
				wantFiles(t, d, f(7, xs(n), n))
			}
		}
	}
	d := loaded(t, 1024, f(1, "abc", 0), f(2, "def", 0))
	d.Crash([]int{math.MinInt, math.MaxInt}) // both count as 2^63 - 1, which is 3 mod 4
	wantFiles(t, d, f(1, "abc", 3), f(2, "def", 3))
}

// P11.5: the k-th file has the k-th number, also behind files of which all is safe, or that have no bytes; what keep hasn't is 0.
func TestCrashManyFiles(t *testing.T) {
	files := []api.File{f(3, "abc", 0), f(10, "", 0), f(20, "def", 3), f(100, "ghi", 1), f(1<<40, "jkl", 0)}
	for _, x := range []struct {
		keep []int
		want []int
	}{
		{nil, []int{0, 0, 3, 1, 0}},
		{[]int{}, []int{0, 0, 3, 1, 0}},
		{[]int{0, 0, 0, 0, 0}, []int{0, 0, 3, 1, 0}},
		{[]int{1}, []int{1, 0, 3, 1, 0}},
		{[]int{3, 3}, []int{3, 0, 3, 1, 0}},
		{[]int{4, 1, 2}, []int{0, 0, 3, 1, 0}},
		{[]int{2, 9, 9, 1}, []int{2, 0, 3, 2, 0}},
		{[]int{0, 9, 9, 2, 3}, []int{0, 0, 3, 3, 3}},
		{[]int{-2, -2, -2, -2, -2}, []int{1, 0, 3, 2, 1}},
		{[]int{1, 1, 1, 1, 1, 3, 3, 3, -7}, []int{1, 0, 3, 2, 1}},
		{[]int{7, 7, 7, 7, 7}, []int{3, 0, 3, 2, 3}},
	} {
		d := loaded(t, 1024, files...)
		d.Crash(x.keep)
		var want []api.File
		for k, n := range x.want {
			want = append(want, f(files[k].Num, string(files[k].Data[:n]), n))
		}
		wantFiles(t, d, want...)
	}
}

// P11.5: numbers count by the files that there are then, not by those that there were.
func TestCrashCountsWhatIsThere(t *testing.T) {
	d := fresh(t, 1024, create(9), create(5), create(1), add(9, "999"), add(5, "555"), add(1, "111"), remove(1))
	d.Crash([]int{1, 2})
	wantFiles(t, d, f(5, "5", 1), f(9, "99", 2))
	wantAll(t, d, create(1), add(1, "111"), add(9, "9"))
	d.Crash([]int{2, 0, 0})
	wantFiles(t, d, f(1, "11", 2), f(5, "5", 1), f(9, "99", 2))
}

// P11.3: which files there are, and what was cut, no crash changes.
func TestCrashLeavesFiles(t *testing.T) {
	for _, keep := range [][]int{nil, {0, 0, 0}, {1, 1, 1}, {99, 99, 99}} {
		d := fresh(t, 1024, create(1), create(2), create(3), add(2, "abc"), sync1(2), remove(2), create(4), add(4, "abcdef"), cut(4, 5))
		d.Crash(keep)
		wantFiles(t, d, f(1, "", 0), f(3, "", 0), f(4, "abcde", 5))
		wantRefused(t, d, api.ErrDiskThere, create(1), create(3), create(4))
		wantRefused(t, d, api.ErrDiskNone, sync1(2))
	}
}

// P11.7: behind a crash, and behind a Load of files that are safe, a crash changes nothing.
func TestCrashTwice(t *testing.T) {
	keeps := [][]int{nil, {1}, {0, 5, 9}, {-1, -2, -3}, {3, 2, 1, 7}, {math.MinInt, math.MaxInt, 77}}
	safe := []api.File{f(1, "abc", 3), f(2, "", 0), f(5, "de", 2)}
	for _, keep := range keeps {
		d := loaded(t, 1024, safe...)
		d.Crash(keep)
		wantFiles(t, d, safe...)

		d = loaded(t, 1024, f(1, "abcde", 2), f(2, "fghij", 0), f(5, "klmno", 4))
		d.Crash(keep)
		left := d.Files()
		for k, x := range left {
			if whole := []string{"abcde", "fghij", "klmno"}[k]; !strings.HasPrefix(whole, string(x.Data)) || len(x.Data) < []int{2, 0, 4}[k] || x.Safe != len(x.Data) {
				t.Errorf("a crash leaves %s", show(left))
			}
		}
		for _, again := range keeps {
			d.Crash(again)
			wantFiles(t, d, left...)
		}
		wantAll(t, d, add(1, "XYZ"))
		d.Crash(nil)
		wantFiles(t, d, left...)
	}
}

// P11.6, R7: what is done to one of the two is never seen at the other.
func TestClone(t *testing.T) {
	acts := map[string]func(d *Disk){
		"create":       func(d *Disk) { d.Do(create(3)) },
		"append":       func(d *Disk) { d.Do(add(1, "!")) },
		"append more":  func(d *Disk) { d.Do(add(2, xs(900))) },
		"sync":         func(d *Disk) { d.Do(sync1(2)) },
		"cut":          func(d *Disk) { d.Do(cut(2, 1)) },
		"cut, append":  func(d *Disk) { d.Do(cut(2, 1)); d.Do(add(2, "!!!!")) },
		"remove":       func(d *Disk) { d.Do(remove(1)) },
		"remove, anew": func(d *Disk) { d.Do(remove(1)); d.Do(create(1)); d.Do(add(1, "!!!")) },
		"crash":        func(d *Disk) { d.Crash([]int{1, 1}) },
		"crash, more":  func(d *Disk) { d.Crash([]int{1, 1}); d.Do(add(1, "!!")); d.Do(add(2, "!!")) },
	}
	want := []api.File{f(1, "xyz", 0), f(2, "abcde", 3)}
	for name, act := range acts {
		d := exampleDisk(t)
		c := d.Clone()
		wantFiles(t, c, want...)
		act(c)
		wantFiles(t, d, want...)
		changed := c.Files()
		if same(changed, want) {
			t.Errorf("%s: the clone stayed as it was", name)
		}
		act(d)
		if got := d.Files(); !same(got, changed) {
			t.Errorf("%s: the disk has %s, its clone %s", name, show(got), show(changed))
		}
		wantFiles(t, c, changed...)
	}
}

// P11.6, R7: both append behind the same bytes, over and over, also where memory is spare.
func TestCloneAppends(t *testing.T) {
	d := fresh(t, 1024, create(1))
	text := ""
	for n := range 60 {
		c := d.Clone()
		e := c.Clone()
		wantAll(t, d, add(1, "dd"))
		wantAll(t, c, add(1, "ccc"))
		wantAll(t, e, add(1, "e"))
		wantFiles(t, c, f(1, text+"ccc", 0))
		wantFiles(t, e, f(1, text+"e", 0))
		text += "dd"
		wantFiles(t, d, f(1, text, 0))
		if t.Failed() {
			t.Fatalf("round %d", n)
		}
	}
}

// P11.6, R7: a clone has the same quota and the same room; of an empty disk too.
func TestCloneQuota(t *testing.T) {
	d := fresh(t, 1030)
	c := d.Clone()
	wantFiles(t, c)
	wantAll(t, c, create(1), add(1, xs(1000)))
	wantFiles(t, d)
	e := c.Clone()
	wantRefused(t, e, api.ErrDiskFull, add(1, xs(31)))
	wantAll(t, e, add(1, xs(30)))
	wantRefused(t, e, api.ErrDiskFull, add(1, "y"))
	wantRefused(t, c, api.ErrDiskFull, add(1, xs(31)))
	wantAll(t, d, create(2), add(2, xs(1030)))
	wantFiles(t, c, f(1, xs(1000), 0))
}

// filled is a text with spare room behind its end, all of it known.
func filled(text string) []byte {
	return append([]byte(text), "spare room"...)[:len(text)]
}

func wantUntouched(t *testing.T, what string, data []byte, text string) {
	t.Helper()
	if got := string(data[:len(text)+len("spare room")]); got != text+"spare room" {
		t.Errorf("%s: what was handed in is %q now", what, got)
	}
}

// spoil overwrites a list and its spare room.
func spoil(data []byte) {
	data = data[:cap(data)]
	for i := range data {
		data[i] = '#'
	}
}

// R4: what is handed in is neither changed nor kept, nor the spare room behind its end.
func TestHandedIn(t *testing.T) {
	one, two, more := filled("one"), filled("two"), filled("more")
	files := append(make([]api.File, 0, 4), api.File{Num: 1, Data: one, Safe: 1}, api.File{Num: 2, Data: two})
	d := loaded(t, 1024, files...)
	d2, _ := Load(1024, files)
	if spare := files[:4]; spare[2].Data != nil || spare[3].Num != 0 || files[0].Num != 1 || files[1].Safe != 0 {
		t.Errorf("Load changed the list it was given: %s", show(spare))
	}
	for _, x := range []*Disk{d, d2} {
		wantDone(t, x, api.Act{Kind: api.ActAppend, File: 1, Data: more}, api.OK)
		wantDone(t, x, api.Act{Kind: api.ActAppend, File: 2, Data: more[:0]}, api.OK)
		wantAll(t, x, create(3))
		wantDone(t, x, api.Act{Kind: api.ActAppend, File: 3, Data: more}, api.OK)
		wantAll(t, x, add(3, "!"), add(2, "?"), add(1, "."))
	}
	wantUntouched(t, "Load", one, "one")
	wantUntouched(t, "Load", two, "two")
	wantUntouched(t, "Do", more, "more")
	spoil(one)
	spoil(two)
	spoil(more)
	files[0], files[1] = api.File{}, api.File{}
	for _, x := range []*Disk{d, d2} {
		wantFiles(t, x, f(1, "onemore.", 1), f(2, "two?", 0), f(3, "more!", 0))
	}

	keep := append(make([]int, 0, 8), 1, -5, math.MinInt)
	d.Crash(keep)
	if !slices.Equal(keep[:8], []int{1, -5, math.MinInt, 0, 0, 0, 0, 0}) {
		t.Errorf("Crash made %v of keep", keep[:8])
	}
}

// R4: what is told is its asker's own, its spare room too, and no two lists of it share any.
func TestToldIsNew(t *testing.T) {
	d := loaded(t, 1024, f(1, "abc", 1), f(2, "de", 0), f(3, "", 0), f(4, "fghijk", 6))
	want := []api.File{f(1, "abcX", 1), f(2, "de", 0), f(3, "", 0), f(4, "fghi", 4)}
	wantAll(t, d, add(1, "X"), cut(4, 4))
	earlier := d.Files()
	for k := range want {
		told := d.Files()
		spoil(told[k].Data)
		told[k].Data = append(told[k].Data, "more and more"...)
		for i := range told {
			if i != k && !bytes.Equal(told[i].Data, want[i].Data) {
				t.Errorf("file %d shows what was written into file %d: %q", i, k, told[i].Data)
			}
		}
		told[k].Num, told[k].Safe = 77, 77
		_ = append(told[:cap(told)], api.File{Num: 5})
		wantFiles(t, d, want...)
	}
	if !same(earlier, want) {
		t.Errorf("an earlier answer shows %s", show(earlier))
	}
	wantAll(t, d, add(1, "Y"), cut(2, 1), remove(4))
	d.Crash(nil)
	if !same(earlier, want) {
		t.Errorf("an earlier answer follows the disk: %s", show(earlier))
	}
	wantFiles(t, d, f(1, "a", 1), f(2, "d", 1), f(3, "", 0))
}

// P11.9: acts of all kinds, refused for each reason, with nothing changed by any.
func TestRefused(t *testing.T) {
	d := exampleDisk(t)
	refused := map[api.Errno][]api.Act{
		api.ErrDiskFile:  {create(0), create(-1), create(1<<40 + 1)},
		api.ErrDiskThere: {create(1), create(2)},
		api.ErrDiskNone:  {add(3, "x"), sync1(3), cut(3, 0), remove(3)},
		api.ErrDiskPlace: {cut(1, 4), cut(1, -1), cut(2, 6)},
		api.ErrDiskFull:  {add(1, xs(1017)), add(2, xs(1017))},
		api.ErrDiskKind:  {{}, {Kind: 6, File: 1}, {Kind: -1, File: 2}},
	}
	for err, acts := range refused {
		wantRefused(t, d, err, acts...)
	}
	// What was not safe ahead of them isn't safe behind them.
	d.Crash(nil)
	wantFiles(t, d, f(1, "", 0), f(2, "abc", 3))
}

// P11.9, R5: disks that came to their files by other ways go on alike.
func TestSameFilesSameDisk(t *testing.T) {
	d := exampleDisk(t)
	e := loaded(t, 1024, d.Files()...)
	c := d.Clone()
	g := fresh(t, 1024, create(7), create(1), add(1, "xyzzy"), remove(7), create(2), add(2, "abc"), sync1(2), add(2, "de"), remove(1), create(1), add(1, "xyz"))
	acts := []api.Act{add(2, "f"), create(3), add(3, xs(1016)), add(3, xs(1015)), add(1, "!"), sync1(1), cut(2, 2), remove(3), remove(3), add(2, xs(1019)), add(2, xs(9)), create(1 << 40)}
	for _, a := range acts {
		want := d.Do(a)
		for _, x := range []*Disk{e, c, g} {
			wantDone(t, x, a, want)
			wantFiles(t, x, d.Files()...)
		}
	}
	for _, x := range []*Disk{d, e, c, g} {
		x.Crash([]int{5, 6, 7})
		wantFiles(t, x, d.Files()...)
	}
}

// plain is what a disk should tell: its files as a list, without order.
type plain struct {
	quota int
	files []plainFile
}

type plainFile struct {
	num  int
	text string
	safe int
}

func (p plain) clone() plain { return plain{p.quota, slices.Clone(p.files)} }

func (p plain) used() int {
	n := 0
	for _, x := range p.files {
		n += len(x.text)
	}
	return n
}

func (p plain) told() []api.File {
	var list []api.File
	for _, x := range p.files {
		list = append(list, f(x.num, x.text, x.safe))
	}
	slices.SortFunc(list, func(a, b api.File) int { return a.Num - b.Num })
	return list
}

// do tells what an act is answered, and does it to the list.
func (p *plain) do(a api.Act) api.Errno {
	at := slices.IndexFunc(p.files, func(x plainFile) bool { return x.num == a.File })
	switch {
	case a.Kind < 1 || a.Kind > 5:
		return 116
	case a.Kind == 1 && (a.File < 1 || a.File > 1099511627776):
		return 111
	case a.Kind == 1 && at >= 0:
		return 112
	case a.Kind == 1:
		p.files = append(p.files, plainFile{num: a.File})
		return 0
	case at < 0:
		return 113
	case a.Kind == 2 && p.used()+len(a.Data) > p.quota:
		return 115
	case a.Kind == 4 && (a.Size < 0 || a.Size > len(p.files[at].text)):
		return 114
	}
	x := &p.files[at]
	switch a.Kind {
	case 2:
		x.text += string(a.Data)
	case 3:
		x.safe = len(x.text)
	case 4:
		x.text, x.safe = x.text[:a.Size], a.Size
	case 5:
		p.files = slices.Delete(p.files, at, at+1)
	}
	return 0
}

func (p *plain) crash(keep []int) {
	slices.SortFunc(p.files, func(a, b plainFile) int { return a.num - b.num })
	for k := range p.files {
		x, n := &p.files[k], 0
		if k < len(keep) {
			n = greatKept(len(x.text)-x.safe, keep[k])
		}
		x.safe += n
		x.text = x.text[:x.safe]
	}
}

// randomAct is an act that is refused now and then.
func randomAct(dice *rand.Rand) api.Act {
	nums := []int{1, 2, 3, 4, 1 << 40, 5, 6, 0, -1, 1<<40 + 1}
	a := api.Act{Kind: dice.Intn(5) + 1, File: nums[dice.Intn(6)]}
	switch n := dice.Intn(40); {
	case n == 0:
		a.Kind = dice.Intn(20) - 8
	case n == 1:
		a.File = nums[dice.Intn(len(nums))]
	case n < 20:
		a.Kind = api.ActAppend
	}
	if a.Kind == api.ActRemove && dice.Intn(3) > 0 {
		a.Kind = api.ActSync
	}
	a.Size = dice.Intn(300) - 5
	if a.Kind == api.ActCut && dice.Intn(3) > 0 {
		a.Size = dice.Intn(20)
	}
	a.Data = make([]byte, dice.Intn(60))
	if dice.Intn(20) == 0 {
		a.Data = make([]byte, dice.Intn(1100))
	}
	dice.Read(a.Data)
	return a
}

func randomKeep(dice *rand.Rand) []int {
	keep := make([]int, dice.Intn(9))
	for i := range keep {
		keep[i] = dice.Intn(600) - 200
		if dice.Intn(8) == 0 {
			keep[i] = int(dice.Uint64())
		}
	}
	return keep
}

// P11.1 to P11.9: long random plays, with crashes, clones and loads, against a plain list.
func TestAgainstPlain(t *testing.T) {
	answered := map[api.Errno]int{}
	for seed := range int64(150) {
		dice := rand.New(rand.NewSource(seed))
		quota := 1024 + dice.Intn(200)
		disks, plains := []*Disk{fresh(t, quota)}, []plain{{quota: quota}}
		for step := range 400 {
			i := dice.Intn(len(disks))
			switch n := dice.Intn(60); {
			case n == 0 && len(disks) < 4:
				disks, plains = append(disks, disks[i].Clone()), append(plains, plains[i].clone())
			case n == 1:
				disks[i] = loaded(t, quota, disks[i].Files()...)
			case n == 2:
				keep := randomKeep(dice)
				disks[i].Crash(keep)
				plains[i].crash(keep)
			default:
				a := randomAct(dice)
				want := plains[i].do(a)
				answered[want]++
				wantDone(t, disks[i], a, want)
			}
			for k, d := range disks {
				wantFiles(t, d, plains[k].told()...)
				if d.Used() > quota {
					t.Errorf("Used() = %d, of %d", d.Used(), quota)
				}
			}
			if t.Failed() {
				t.Fatalf("seed %d, step %d", seed, step)
			}
		}
	}
	for _, err := range []api.Errno{0, 111, 112, 113, 114, 115, 116} {
		if answered[err] < 50 {
			t.Errorf("the plays met %d only %d times", err, answered[err])
		}
	}
}

// P11.2: random lists of files, right and wrong, against the chapter's words.
func TestLoadAgainstPlain(t *testing.T) {
	met := map[api.Errno]int{}
	dice := rand.New(rand.NewSource(2))
	for range 20000 {
		quota := []int{1024, 1024, 1024, 1024, 1 << 26, 1023, 1<<26 + 1}[dice.Intn(7)]
		var files []api.File
		num := 0
		for range dice.Intn(5) {
			num += dice.Intn(9)
			size := dice.Intn(520)
			files = append(files, f(num, xs(size), dice.Intn(size+30)-4))
			if dice.Intn(2) > 0 {
				files[len(files)-1].Safe = size
			}
		}
		want := plainLoad(quota, files)
		met[want]++
		wantLoad(t, quota, files, want)
		if t.Failed() {
			t.FailNow()
		}
	}
	for _, err := range []api.Errno{0, 110, 111, 114, 115} {
		if met[err] < 100 {
			t.Errorf("the lists met %d only %d times", err, met[err])
		}
	}
}

func plainLoad(quota int, files []api.File) api.Errno {
	if quota < 1024 || quota > 67108864 {
		return 110
	}
	total := 0
	for i, x := range files {
		if x.Num < 1 || x.Num > 1099511627776 || i > 0 && x.Num <= files[i-1].Num {
			return 111
		}
		if x.Safe < 0 || x.Safe > len(x.Data) {
			return 114
		}
		total += len(x.Data)
	}
	if total > quota {
		return 115
	}
	return 0
}

// W7, R1: many files and many acts, each done without going through all files.
func TestManyFiles(t *testing.T) {
	const many = 100000
	begin := time.Now()
	d := fresh(t, 1<<20)
	for n := many; n >= 1; n-- {
		wantDone(t, d, create(n), api.OK)
		wantDone(t, d, add(n, "abcde"[:n%5+1]), api.OK)
		if n%2 == 0 {
			wantDone(t, d, sync1(n), api.OK)
		}
	}
	d.Crash(nil)
	used, list := 0, d.Files()
	for i, x := range list {
		want := ""
		if x.Num%2 == 0 {
			want = "abcde"[:x.Num%5+1]
		}
		if x.Num != i+1 || string(x.Data) != want || x.Safe != len(want) {
			t.Fatalf("the file at %d is %s", i, show(list[i:i+1]))
		}
		used += len(want)
	}
	if len(list) != many || d.Used() != used {
		t.Fatalf("%d files with %d bytes; want %d, %d", len(list), d.Used(), many, used)
	}
	for n := range many {
		wantDone(t, d, remove(n+1), api.OK)
	}
	wantFiles(t, d)
	if took := time.Since(begin); took > time.Minute {
		t.Errorf("it took %v", took)
	}
}

// MaxQuota: the greatest disk, filled by small pieces, cloned, cut and crashed.
func TestGreatest(t *testing.T) {
	d := fresh(t, 1<<26, create(1))
	piece := api.Act{Kind: api.ActAppend, File: 1, Data: bytes.Repeat([]byte("stint"), 200)}
	for d.Used()+1000 <= 1<<26 {
		wantDone(t, d, piece, api.OK)
	}
	wantDone(t, d, piece, api.ErrDiskFull)
	if t.Failed() {
		t.FailNow()
	}
	c := d.Clone()
	c.Crash([]int{1 << 25})
	wantAll(t, d, cut(1, 1<<25))
	one, two := c.Files(), d.Files()
	if len(one) != 1 || len(one[0].Data) != 1<<25 || !same(one, two) {
		t.Errorf("%s; and %s", show(one), show(two))
	}
}

// What is let go is not kept: many files, each filled once and cut, need no more memory than a few.
func TestCutFreesMemory(t *testing.T) {
	lets := map[string]func(d *Disk, num int){
		"cut":    func(d *Disk, num int) { d.Do(cut(num, 1)) },
		"crash":  func(d *Disk, num int) { d.Crash([]int{0}) },
		"remove": func(d *Disk, num int) { d.Do(remove(num)) },
	}
	great := api.Act{Kind: api.ActAppend, Data: make([]byte, 8<<20)}
	for name, letGo := range lets {
		d := fresh(t, 1<<24)
		ahead := heapBytes()
		for num := 1; num <= 32; num++ {
			wantAll(t, d, create(num))
			great.File = num
			wantDone(t, d, great, api.OK)
			letGo(d, num)
		}
		if grown := heapBytes() - ahead; grown > 64<<20 {
			t.Errorf("%s: %d bytes are kept for %d", name, grown, d.Used())
		}
		runtime.KeepAlive(d)
	}
}

func heapBytes() int {
	runtime.GC()
	var m runtime.MemStats
	runtime.ReadMemStats(&m)
	return int(m.HeapAlloc)
}

// R5: disks that are used side by side, and one that is told by many, answer as ever.
func TestSideBySide(t *testing.T) {
	shown := exampleDisk(t)
	var group sync.WaitGroup
	for n := range 8 {
		group.Go(func() {
			for range 50 {
				d, _ := New(1024)
				wantAll(t, d, create(n+1), add(n+1, xs(n)))
				wantFiles(t, d, f(n+1, xs(n), 0))
				wantFiles(t, shown, f(1, "xyz", 0), f(2, "abcde", 3))
				wantFiles(t, shown.Clone(), f(1, "xyz", 0), f(2, "abcde", 3))
			}
		})
	}
	group.Wait()
}
