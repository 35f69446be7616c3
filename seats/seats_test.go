package seats

import (
	"fmt"
	"math"
	"reflect"
	"slices"
	"strings"
	"testing"

	"stint/api"
)

// Numbers that no connection has; some of them are right if their upper bits are lost.
var wrongNums = []int{math.MinInt, math.MinInt + 3, -1 << 32, -64, -61, -3, -2, -1, 64, 65, 67, 128 + 3, 256 + 3, 1<<16 + 3, 1<<32 + 3, 1<<62 + 3, math.MaxInt}

// Texts that are no names.
var wrongNames = []string{"", "-", "-a", "-b", " ", "a ", " a", "a b", "a,b", "é", "a\x00", "\xff", "a\r\n", "default ", "default\x00", strings.Repeat("a", 201), strings.Repeat("a", 456), strings.Repeat("a", 1<<20)}

// Texts that may be names of tubes that nobody has.
var moreTubes = append([]string{"a", "b", "c", "A", "aa", "default", "Default", "defaul", "defaults", "0", "none", strings.Repeat("a", 200)}, wrongNames...)

// tells is all that seats tell: of those that are there, of other numbers, of their tubes, and of other texts.
type tells struct {
	nums, waiters []int
	tubes         []string
	seats         []api.Seat
	of            []string
}

// own is a connection with a list of its own; one that is none is nil.
func own(x api.Seat) api.Seat {
	x.Watched = append([]string(nil), x.Watched...)
	return x
}

// cut is a text that is short enough to be read.
func cut(text string) string {
	if len(text) > 40 {
		return fmt.Sprintf("%.40q.. (%d bytes)", text, len(text))
	}
	return fmt.Sprintf("%q", text)
}

func tellsOf(s *Seats) tells {
	told := tells{nums: append([]int(nil), s.Nums()...), waiters: append([]int(nil), s.Waiters()...), tubes: append([]string(nil), s.Tubes()...)}
	for _, n := range append(told.nums, wrongNums...) {
		if x, there := s.Get(n); there {
			told.seats = append(told.seats, own(x))
		} else if !reflect.DeepEqual(own(x), api.Seat{}) {
			told.of = append(told.of, fmt.Sprintf("Get(%d) = %+v, false", n, x))
		}
	}
	for _, tube := range append(told.tubes, moreTubes...) {
		told.of = append(told.of, fmt.Sprintf("%s: %d use it, %d watch it, %d wait for it, %d is first", cut(tube), s.Using(tube), s.Watching(tube), s.Waiting(tube), s.First(tube)))
	}
	return told
}

// show cuts what is long, so that a failure can be read.
func show(x any) string {
	text := fmt.Sprintf("%+v", x)
	if len(text) > 1500 {
		return text[:1500] + ".."
	}
	return text
}

func wantTells(t *testing.T, s *Seats, want tells) {
	t.Helper()
	got := tellsOf(s)
	for i, line := range got.of {
		if i < len(want.of) && line != want.of[i] {
			t.Errorf("it tells %s; want %s", line, want.of[i])
		}
	}
	if !reflect.DeepEqual(got, want) {
		t.Errorf("it tells %s; want %s", show(got), show(want))
	}
}

func wantErr(t *testing.T, got, want api.Errno) {
	t.Helper()
	if got != want {
		t.Errorf("it answers %d; want %d", got, want)
	}
}

// counted is what Watch and Ignore answer.
type counted struct {
	count int
	err   api.Errno
}

func watch(s *Seats, n int, tube string) counted {
	count, err := s.Watch(n, tube)
	return counted{count, err}
}

func ignore(s *Seats, n int, tube string) counted {
	count, err := s.Ignore(n, tube)
	return counted{count, err}
}

func wantCount(t *testing.T, got counted, count int, err api.Errno) {
	t.Helper()
	if got != (counted{count, err}) {
		t.Errorf("it answers %d, %d; want %d, %d", got.count, got.err, count, err)
	}
}

func wantInt(t *testing.T, got, want int) {
	t.Helper()
	if got != want {
		t.Errorf("it tells %d; want %d", got, want)
	}
}

func wantNums(t *testing.T, got []int, want ...int) {
	t.Helper()
	if !slices.Equal(got, want) {
		t.Errorf("the numbers are %v; want %v", got, want)
	}
}

func wantTubes(t *testing.T, s *Seats, want ...string) {
	t.Helper()
	if got := s.Tubes(); !slices.Equal(got, want) {
		t.Errorf("Tubes() = %q; want %q", got, want)
	}
}

func wantSeat(t *testing.T, s *Seats, want api.Seat) {
	t.Helper()
	if got, there := s.Get(want.Num); !there || !reflect.DeepEqual(own(got), own(want)) {
		t.Errorf("Get(%d) = %s, %v; want %s", want.Num, show(got), there, show(want))
	}
}

func wantNone(t *testing.T, s *Seats, n int) {
	t.Helper()
	if got, there := s.Get(n); there || !reflect.DeepEqual(own(got), api.Seat{}) {
		t.Errorf("Get(%d) = %s, %v; want none", n, show(got), there)
	}
}

// wantRefused does a call that must be refused, with no other answer, and must change nothing.
func wantRefused(t *testing.T, s *Seats, want api.Errno, call func(s *Seats) counted) {
	t.Helper()
	before := tellsOf(s)
	wantCount(t, call(s), 0, want)
	wantTells(t, s, before)
}

func openOf(n int) func(s *Seats) counted {
	return func(s *Seats) counted { return counted{err: s.Open(n)} }
}

func closeOf(n int) func(s *Seats) counted {
	return func(s *Seats) counted { return counted{err: s.Close(n)} }
}

func useOf(n int, tube string) func(s *Seats) counted {
	return func(s *Seats) counted { return counted{err: s.Use(n, tube)} }
}

func watchOf(n int, tube string) func(s *Seats) counted {
	return func(s *Seats) counted { return watch(s, n, tube) }
}

func ignoreOf(n int, tube string) func(s *Seats) counted {
	return func(s *Seats) counted { return ignore(s, n, tube) }
}

func waitOf(n, until int) func(s *Seats) counted {
	return func(s *Seats) counted { return counted{err: s.Wait(n, until)} }
}

func stopOf(n int) func(s *Seats) counted {
	return func(s *Seats) counted { return counted{err: s.Stop(n)} }
}

func markOf(n int, puts, takes bool) func(s *Seats) counted {
	return func(s *Seats) counted { return counted{err: s.Mark(n, puts, takes)} }
}

// do does calls that must not be refused.
func do(t *testing.T, s *Seats, calls ...func(s *Seats) counted) *Seats {
	t.Helper()
	for i, call := range calls {
		if got := call(s); got.err != api.OK {
			t.Fatalf("the call %d answers %d", i, got.err)
		}
	}
	return s
}

// with are seats with which these calls were done.
func with(t *testing.T, calls ...func(s *Seats) counted) *Seats {
	t.Helper()
	return do(t, New(), calls...)
}

// some has six connections: 0 as it came, 3 and 63 that wait, 5 that waited, 7 and 9 that watch one tube alone.
func some(t *testing.T) *Seats {
	t.Helper()
	return with(t, openOf(7), openOf(63), openOf(0), openOf(3), openOf(5), openOf(9),
		watchOf(3, "b"), watchOf(3, "a"), useOf(3, "c"), ignoreOf(3, "default"), waitOf(63, -1), waitOf(5, 4), waitOf(3, 8),
		markOf(3, true, false), stopOf(5), markOf(63, false, true), watchOf(5, "a"), useOf(5, "a"), markOf(5, true, true),
		watchOf(7, "c"), ignoreOf(7, "default"), watchOf(9, "d"), ignoreOf(9, "default"), useOf(9, "d"))
}

// The chapter's examples, line by line.
func TestExamples(t *testing.T) {
	s := New()
	wantErr(t, s.Open(3), api.OK)
	wantErr(t, s.Open(3), api.ErrSeatOpen)
	wantErr(t, s.Open(64), api.ErrSeatNum)
	wantSeat(t, s, api.Seat{Num: 3, Used: "default", Watched: []string{"default"}})

	wantCount(t, watch(s, 3, "a"), 2, api.OK)
	wantCount(t, watch(s, 3, "a"), 2, api.OK)
	wantCount(t, ignore(s, 3, "zz"), 2, api.OK)
	wantCount(t, ignore(s, 3, "default"), 1, api.OK)
	wantCount(t, ignore(s, 3, "a"), 0, api.ErrSeatLast)

	wantErr(t, s.Use(3, "b"), api.OK)
	wantErr(t, s.Use(3, "-b"), api.ErrName)
	wantErr(t, s.Use(9, "-b"), api.ErrSeatNone)
	wantTubes(t, s, "a", "b")

	wantErr(t, s.Open(1), api.OK)
	wantCount(t, watch(s, 1, "a"), 2, api.OK)
	wantErr(t, s.Wait(3, 7), api.OK)
	wantErr(t, s.Wait(1, -1), api.OK)
	wantErr(t, s.Wait(3, 9), api.ErrSeatWait)
	wantErr(t, s.Wait(1, -2), api.ErrArg)

	wantNums(t, s.Waiters(), 3, 1)
	wantInt(t, s.First("a"), 3)
	wantInt(t, s.First("default"), 1)
	wantInt(t, s.Waiting("a"), 2)
	wantInt(t, s.First("b"), -1)

	wantErr(t, s.Stop(3), api.OK)
	wantErr(t, s.Stop(3), api.ErrSeatWait)
	wantErr(t, s.Close(1), api.OK)
	wantNums(t, s.Waiters())
	wantNums(t, s.Nums(), 3)
}

// P16.1: new ones have no connection, and nothing in common with others.
func TestNew(t *testing.T) {
	s, other := New(), New()
	if s == nil || other == nil {
		t.Fatal("New() is nil")
	}
	wantNums(t, s.Nums())
	wantNums(t, s.Waiters())
	wantTubes(t, s)
	for _, tube := range moreTubes {
		wantNums(t, []int{s.Using(tube), s.Watching(tube), s.Waiting(tube), s.First(tube)}, 0, 0, 0, -1)
	}
	before := tellsOf(s)
	do(t, other, openOf(0), openOf(4), watchOf(4, "a"), useOf(4, "b"), waitOf(4, 2), markOf(4, true, true))
	wantTells(t, s, before)
}

// P16.1: each number that may be, once; what a connection is that has just come.
func TestOpen(t *testing.T) {
	s := New()
	var nums []int
	for i := range 64 {
		n := i * 37 % 64
		nums = append(nums, n)
		wantNone(t, s, n)
		wantErr(t, s.Open(n), api.OK)
		wantSeat(t, s, api.Seat{Num: n, Used: "default", Watched: []string{"default"}})
		wantRefused(t, s, api.ErrSeatOpen, openOf(n))
		slices.Sort(nums)
		wantNums(t, s.Nums(), nums...)
		wantNums(t, []int{s.Using("default"), s.Watching("default"), s.Waiting("default")}, i+1, i+1, 0)
	}
	wantNums(t, s.Waiters())
	wantTubes(t, s, "default")
}

// P16.1: numbers that no connection may have.
func TestOpenWrong(t *testing.T) {
	for _, s := range []*Seats{New(), some(t)} {
		for _, n := range wrongNums {
			wantRefused(t, s, api.ErrSeatNum, openOf(n))
			wantNone(t, s, n)
		}
	}
}

// P16.1: one that is there can't come, however it stands, and stays as it is.
func TestOpenAgain(t *testing.T) {
	s := some(t)
	for _, n := range s.Nums() {
		wantRefused(t, s, api.ErrSeatOpen, openOf(n))
	}
}

// P16.1: of all calls the number comes first: one that is not there has no other error, and nothing changes.
func TestNotThere(t *testing.T) {
	for _, s := range []*Seats{New(), some(t), do(t, some(t), closeOf(3), closeOf(0))} {
		for _, n := range append([]int{1, 2, 4, 62}, wrongNums...) {
			for _, tube := range append([]string{"a", "default", "new"}, wrongNames...) {
				wantRefused(t, s, api.ErrSeatNone, useOf(n, tube))
				wantRefused(t, s, api.ErrSeatNone, watchOf(n, tube))
				wantRefused(t, s, api.ErrSeatNone, ignoreOf(n, tube))
			}
			for _, until := range []int{math.MinInt, -2, -1, 0, 7} {
				wantRefused(t, s, api.ErrSeatNone, waitOf(n, until))
			}
			wantRefused(t, s, api.ErrSeatNone, closeOf(n))
			wantRefused(t, s, api.ErrSeatNone, stopOf(n))
			wantRefused(t, s, api.ErrSeatNone, markOf(n, true, true))
			wantRefused(t, s, api.ErrSeatNone, markOf(n, false, false))
			wantNone(t, s, n)
		}
	}
}

// P16.2: who went is nowhere, nor what it used, watched and waited for; the others stay as they were.
func TestClose(t *testing.T) {
	s := some(t)
	wantTubes(t, s, "a", "b", "c", "d", "default")
	do(t, s, closeOf(3))
	wantNone(t, s, 3)
	wantNums(t, s.Nums(), 0, 5, 7, 9, 63)
	wantNums(t, s.Waiters(), 63)
	wantTubes(t, s, "a", "c", "d", "default")
	wantNums(t, []int{s.Using("c"), s.Watching("a"), s.Watching("b"), s.Waiting("a"), s.First("a")}, 0, 1, 0, 0, -1)
	wantRefused(t, s, api.ErrSeatNone, closeOf(3))
	do(t, s, closeOf(9))
	wantTubes(t, s, "a", "c", "default")
	do(t, s, closeOf(63), closeOf(0))
	wantNums(t, s.Waiters())
	wantNums(t, s.Nums(), 5, 7)
	wantNums(t, []int{s.Using("default"), s.Watching("default"), s.Using("a")}, 1, 1, 1)
	do(t, s, closeOf(5), closeOf(7))
	wantTells(t, s, tellsOf(New()))
}

// P16.2: behind the last one's going nothing is left, in whatever order they go.
func TestCloseAll(t *testing.T) {
	for step := 1; step <= 6; step++ {
		s := some(t)
		nums := s.Nums()
		for i := 1; i <= 6; i++ {
			wantErr(t, s.Close(nums[i*step%7-1]), api.OK)
		}
		wantTells(t, s, tellsOf(New()))
	}
}

// P16.2, P16.5: who comes again is as new.
func TestOpenBehindClose(t *testing.T) {
	s := some(t)
	for _, n := range s.Nums() {
		do(t, s, closeOf(n), openOf(n))
		wantSeat(t, s, api.Seat{Num: n, Used: "default", Watched: []string{"default"}})
	}
	wantTells(t, s, tellsOf(with(t, openOf(0), openOf(3), openOf(5), openOf(7), openOf(9), openOf(63))))
	wantErr(t, s.Stop(3), api.ErrSeatWait)
	wantErr(t, s.Wait(3, 2), api.OK)
	wantNums(t, s.Waiters(), 3)
}

// P16.2, P16.4: who waited, went and came again is behind all others.
func TestWaitBehindClose(t *testing.T) {
	s := with(t, openOf(1), openOf(2), openOf(3), waitOf(1, 5), waitOf(2, 5), waitOf(3, 5), closeOf(1), openOf(1))
	wantNums(t, s.Waiters(), 2, 3)
	do(t, s, waitOf(1, 5))
	wantNums(t, s.Waiters(), 2, 3, 1)
}

// P16.3: which tube is used, the last one said.
func TestUse(t *testing.T) {
	s := with(t, openOf(1), openOf(2))
	for _, tube := range []string{"a", "b", "b", "default", "+/;.$_()-", strings.Repeat("x", 200), "a"} {
		wantErr(t, s.Use(1, tube), api.OK)
		wantSeat(t, s, api.Seat{Num: 1, Used: tube, Watched: []string{"default"}})
		wantSeat(t, s, api.Seat{Num: 2, Used: "default", Watched: []string{"default"}})
		if tube != "default" {
			wantNums(t, []int{s.Using(tube), s.Watching(tube), s.Using("default")}, 1, 0, 1)
		}
	}
	wantTubes(t, s, "a", "default")
	do(t, s, useOf(2, "a"))
	wantNums(t, []int{s.Using("a"), s.Using("default"), s.Watching("default")}, 2, 0, 2)
}

// P16.3: a tube that is used may be watched and ignored, and one that is watched may be used: neither is seen at the other.
func TestUsedAndWatched(t *testing.T) {
	s := with(t, openOf(1), useOf(1, "a"), watchOf(1, "a"))
	wantSeat(t, s, api.Seat{Num: 1, Used: "a", Watched: []string{"a", "default"}})
	wantTubes(t, s, "a", "default")
	do(t, s, ignoreOf(1, "a"))
	wantSeat(t, s, api.Seat{Num: 1, Used: "a", Watched: []string{"default"}})
	wantTubes(t, s, "a", "default")
	do(t, s, watchOf(1, "b"), useOf(1, "b"), useOf(1, "c"))
	wantSeat(t, s, api.Seat{Num: 1, Used: "c", Watched: []string{"b", "default"}})
	wantTubes(t, s, "b", "c", "default")
}

// P16.3: texts that are no names, of all that take one, however the connection stands.
func TestWrongNames(t *testing.T) {
	s := some(t)
	for _, tube := range wrongNames {
		for _, n := range s.Nums() {
			wantRefused(t, s, api.ErrName, useOf(n, tube))
			wantRefused(t, s, api.ErrName, watchOf(n, tube))
			wantRefused(t, s, api.ErrName, ignoreOf(n, tube))
		}
	}
}

// P16.3: each of the 256 bytes, at the beginning of a name and behind it.
func TestNameBytes(t *testing.T) {
	const may = "abcdefghijklmnopqrstuvwxyzABCDEFGHIJKLMNOPQRSTUVWXYZ0123456789-+/;.$_()"
	s := with(t, openOf(1))
	for c := range 256 {
		for _, tube := range []string{string([]byte{byte(c)}), string([]byte{'a', byte(c)})} {
			want := api.OK
			if strings.IndexByte(may, byte(c)) < 0 || tube == "-" {
				want = api.ErrName
			}
			wantErr(t, s.Use(1, tube), want)
			wantErr(t, watch(s, 1, tube).err, want)
			wantErr(t, ignore(s, 1, tube).err, want)
		}
	}
	wantSeat(t, s, api.Seat{Num: 1, Used: "az", Watched: []string{"default"}})
}

// P16.3: Watch and Ignore, what they count, and what they leave as it is.
func TestWatchAndIgnore(t *testing.T) {
	s := with(t, openOf(1), openOf(2))
	other, _ := s.Get(2)
	wantCount(t, watch(s, 1, "default"), 1, api.OK)
	for i, tube := range []string{"b", "a", "c", strings.Repeat("x", 200)} {
		wantCount(t, watch(s, 1, tube), i+2, api.OK)
		wantCount(t, watch(s, 1, tube), i+2, api.OK)
		wantCount(t, watch(s, 1, "default"), i+2, api.OK)
		wantCount(t, ignore(s, 1, "none"), i+2, api.OK)
	}
	wantSeat(t, s, api.Seat{Num: 1, Used: "default", Watched: []string{"a", "b", "c", "default", strings.Repeat("x", 200)}})
	for i, tube := range []string{"c", "default", strings.Repeat("x", 200), "a"} {
		wantCount(t, ignore(s, 1, tube), 4-i, api.OK)
		wantCount(t, ignore(s, 1, tube), 4-i, api.OK)
	}
	wantSeat(t, s, api.Seat{Num: 1, Used: "default", Watched: []string{"b"}})
	wantRefused(t, s, api.ErrSeatLast, ignoreOf(1, "b"))
	wantCount(t, ignore(s, 1, "a"), 1, api.OK)
	wantCount(t, watch(s, 1, "b"), 1, api.OK)
	wantRefused(t, s, api.ErrSeatLast, ignoreOf(1, "b"))
	wantCount(t, watch(s, 1, "a"), 2, api.OK)
	wantCount(t, ignore(s, 1, "b"), 1, api.OK)
	wantRefused(t, s, api.ErrSeatLast, ignoreOf(1, "a"))
	wantSeat(t, s, other)
}

// P16.3: what was watched more than once is ignored at once.
func TestWatchTwiceIgnoreOnce(t *testing.T) {
	s := with(t, openOf(1), watchOf(1, "a"), watchOf(1, "a"), watchOf(1, "a"), watchOf(1, "default"), ignoreOf(1, "a"))
	wantTells(t, s, tellsOf(with(t, openOf(1))))
	wantRefused(t, s, api.ErrSeatLast, ignoreOf(1, "default"))
	do(t, s, watchOf(1, "a"), ignoreOf(1, "default"))
	wantRefused(t, s, api.ErrSeatLast, ignoreOf(1, "a"))
}

// P16.3: the last one of each connection stays, whoever else watches it, whoever waits and whatever is used.
func TestLast(t *testing.T) {
	s := some(t)
	wantRefused(t, s, api.ErrSeatLast, ignoreOf(0, "default"))
	wantRefused(t, s, api.ErrSeatLast, ignoreOf(63, "default"))
	wantRefused(t, s, api.ErrSeatLast, ignoreOf(7, "c"))
	wantRefused(t, s, api.ErrSeatLast, ignoreOf(9, "d"))
	wantCount(t, ignore(s, 9, "default"), 1, api.OK)
	wantCount(t, ignore(s, 3, "a"), 1, api.OK)
	wantRefused(t, s, api.ErrSeatLast, ignoreOf(3, "b"))
}

// P16.4: until when there may be a wait, and who waits.
func TestWait(t *testing.T) {
	for _, until := range []int{-1, 0, 1, 2, 1 << 32, api.MaxNow, api.MaxNow + 1, 1 << 62, math.MaxInt - 1, math.MaxInt} {
		s := with(t, openOf(4), openOf(6))
		wantErr(t, s.Wait(4, until), api.OK)
		wantSeat(t, s, api.Seat{Num: 4, Used: "default", Watched: []string{"default"}, Waits: true, Until: until})
		wantSeat(t, s, api.Seat{Num: 6, Used: "default", Watched: []string{"default"}})
		wantNums(t, s.Waiters(), 4)
		wantNums(t, []int{s.First("default"), s.Waiting("default"), s.Watching("default")}, 4, 1, 2)
		wantRefused(t, s, api.ErrSeatWait, waitOf(4, until))
		wantRefused(t, s, api.ErrSeatWait, waitOf(4, -1))
		wantRefused(t, s, api.ErrSeatWait, waitOf(4, 5))
		wantRefused(t, s, api.ErrSeatWait, stopOf(6))
		wantErr(t, s.Stop(4), api.OK)
		wantTells(t, s, tellsOf(with(t, openOf(4), openOf(6))))
		wantRefused(t, s, api.ErrSeatWait, stopOf(4))
		wantErr(t, s.Wait(4, 9), api.OK)
		wantSeat(t, s, api.Seat{Num: 4, Used: "default", Watched: []string{"default"}, Waits: true, Until: 9})
	}
}

// P16.4: numbers below -1, whether it waits or not: ErrArg comes first.
func TestWaitWrong(t *testing.T) {
	s := some(t)
	for _, until := range []int{math.MinInt, math.MinInt + 1, -1 << 62, -1 << 32, -1<<32 - 1, -256, -3, -2} {
		for _, n := range s.Nums() {
			wantRefused(t, s, api.ErrArg, waitOf(n, until))
		}
	}
}

// P16.4: who stops and waits again is behind all others, whoever stands where.
func TestWaitAgain(t *testing.T) {
	for n := range 5 {
		s := New()
		var line []int
		for i := range 5 {
			do(t, s, openOf(i))
		}
		for _, i := range []int{3, 0, 4, 1, 2} {
			do(t, s, waitOf(i, 9-i))
			line = append(line, i)
			wantNums(t, s.Waiters(), line...)
		}
		line = slices.DeleteFunc(line, func(i int) bool { return i == n })
		do(t, s, stopOf(n))
		wantNums(t, s.Waiters(), line...)
		wantInt(t, s.First("default"), line[0])
		wantInt(t, s.Waiting("default"), 4)
		do(t, s, waitOf(n, 0))
		wantNums(t, s.Waiters(), append(line, n)...)
		wantInt(t, s.Waiting("default"), 5)
	}
}

// P16.5: what is noted stays, each by itself, till it goes.
func TestMark(t *testing.T) {
	for puts := range 2 {
		for takes := range 2 {
			s := with(t, openOf(1), openOf(2), markOf(1, puts == 1, takes == 1))
			want := api.Seat{Num: 1, Used: "default", Watched: []string{"default"}, Puts: puts == 1, Takes: takes == 1}
			wantSeat(t, s, want)
			wantSeat(t, s, api.Seat{Num: 2, Used: "default", Watched: []string{"default"}})
			do(t, s, markOf(1, false, false))
			wantSeat(t, s, want)
			do(t, s, waitOf(1, 3), stopOf(1), watchOf(1, "a"), ignoreOf(1, "a"), useOf(1, "a"), useOf(1, "default"))
			wantSeat(t, s, want)
			p := do(t, s.Clone(), markOf(1, true, false))
			want.Puts = true
			wantSeat(t, p, want)
			do(t, p, markOf(1, false, true))
			want.Takes = true
			wantSeat(t, p, want)
			do(t, p, closeOf(1), openOf(1))
			wantSeat(t, p, api.Seat{Num: 1, Used: "default", Watched: []string{"default"}})
		}
	}
}

// P16.5: what is noted of one that waits changes nothing of its wait.
func TestMarkWaiting(t *testing.T) {
	s := with(t, openOf(1), openOf(2), waitOf(2, 5), waitOf(1, -1), markOf(2, true, true))
	wantSeat(t, s, api.Seat{Num: 2, Used: "default", Watched: []string{"default"}, Waits: true, Until: 5, Puts: true, Takes: true})
	wantNums(t, s.Waiters(), 2, 1)
}

// P16.6: each field, of connections that stand in all ways.
func TestGet(t *testing.T) {
	s := some(t)
	wantSeat(t, s, api.Seat{Num: 0, Used: "default", Watched: []string{"default"}})
	wantSeat(t, s, api.Seat{Num: 3, Used: "c", Watched: []string{"a", "b"}, Waits: true, Until: 8, Puts: true})
	wantSeat(t, s, api.Seat{Num: 5, Used: "a", Watched: []string{"a", "default"}, Puts: true, Takes: true})
	wantSeat(t, s, api.Seat{Num: 7, Used: "default", Watched: []string{"c"}})
	wantSeat(t, s, api.Seat{Num: 9, Used: "d", Watched: []string{"d"}})
	wantSeat(t, s, api.Seat{Num: 63, Used: "default", Watched: []string{"default"}, Waits: true, Until: -1, Takes: true})
	for _, n := range append([]int{1, 2, 4, 6, 8, 10, 62}, wrongNums...) {
		wantNone(t, s, n)
	}
	wantNums(t, s.Nums(), 0, 3, 5, 7, 9, 63)
}

// P16.6: the tubes rise as Go compares texts, in whatever order they were watched.
func TestWatchedRises(t *testing.T) {
	tubes := []string{"a", "A", "aa", "a.", "a-", "Z", "0", "9", "10", "+", "(", "zz", "z", "default", "defaul", "default0"}
	want := slices.Sorted(slices.Values(tubes))
	for step := 1; step <= 16; step++ {
		s := with(t, openOf(2))
		for i := range tubes {
			do(t, s, watchOf(2, tubes[(i+step)*(2*step+1)%16]))
		}
		wantSeat(t, s, api.Seat{Num: 2, Used: "default", Watched: want})
		wantTubes(t, s, want...)
	}
}

// P16.7: who is first of those that watch a tube, while tubes are watched and ignored: their order stays.
func TestFirst(t *testing.T) {
	s := with(t, openOf(1), openOf(2), openOf(3), openOf(4), waitOf(3, 5), waitOf(1, -1), waitOf(2, 5))
	wantNums(t, []int{s.First("default"), s.First("a")}, 3, -1)
	do(t, s, watchOf(4, "a"))
	wantNums(t, []int{s.First("a"), s.Waiting("a"), s.Watching("a")}, -1, 0, 1)
	do(t, s, watchOf(2, "a"))
	wantNums(t, []int{s.First("a"), s.Waiting("a")}, 2, 1)
	do(t, s, watchOf(1, "a"))
	wantNums(t, []int{s.First("a"), s.Waiting("a")}, 1, 2)
	do(t, s, watchOf(3, "a"), ignoreOf(3, "default"))
	wantNums(t, []int{s.First("a"), s.Waiting("a"), s.First("default"), s.Waiting("default")}, 3, 3, 1, 2)
	wantNums(t, s.Waiters(), 3, 1, 2)
	do(t, s, watchOf(3, "default"))
	wantNums(t, []int{s.First("a"), s.First("default")}, 3, 3)
	do(t, s, ignoreOf(3, "a"))
	wantNums(t, []int{s.First("a"), s.First("default")}, 1, 3)
	wantNums(t, s.Waiters(), 3, 1, 2)
	do(t, s, useOf(3, "b"), waitOf(4, 1))
	wantNums(t, []int{s.First("b"), s.First("a"), s.Waiting("a")}, -1, 1, 3)
	wantNums(t, s.Waiters(), 3, 1, 2, 4)
	do(t, s, stopOf(3), closeOf(1))
	wantNums(t, []int{s.First("a"), s.First("default"), s.Waiting("a"), s.Waiting("default")}, 2, 2, 2, 2)
}

// P16.7: the number 0 may be the first one, which is not the same as none.
func TestFirstIsNought(t *testing.T) {
	s := with(t, openOf(0), openOf(1), waitOf(0, 0), waitOf(1, 0))
	wantInt(t, s.First("default"), 0)
	do(t, s, stopOf(0))
	wantInt(t, s.First("default"), 1)
	do(t, s, stopOf(1))
	wantInt(t, s.First("default"), -1)
}

// P16.7: when a wait is to end changes nothing of the order.
func TestWaitersByBeginning(t *testing.T) {
	s := New()
	var line []int
	for i := range 64 {
		n := i * 23 % 64
		do(t, s, openOf(n), waitOf(n, i*29%64-1))
		line = append(line, n)
	}
	wantNums(t, s.Waiters(), line...)
	wantInt(t, s.Waiting("default"), 64)
	for i, n := range line {
		wantInt(t, s.First("default"), n)
		wantNums(t, s.Waiters(), line[i:]...)
		do(t, s, []func(s *Seats) counted{stopOf(n), closeOf(n)}[i%2])
	}
	wantNums(t, s.Waiters())
	wantInt(t, len(s.Nums()), 32)
}

// P16.8: how many use a tube, watch it, wait and watch it.
func TestSums(t *testing.T) {
	s := some(t)
	for tube, want := range map[string][3]int{
		"a": {1, 2, 1}, "b": {0, 1, 1}, "c": {1, 1, 0}, "d": {1, 1, 0}, "default": {3, 3, 1},
		"e": {}, "A": {}, "": {}, "-a": {}, "default ": {}, "a\x00": {}, "aa": {},
	} {
		if got := [3]int{s.Using(tube), s.Watching(tube), s.Waiting(tube)}; got != want {
			t.Errorf("of %q it tells %v; want %v", tube, got, want)
		}
	}
	for _, tube := range wrongNames {
		wantNums(t, []int{s.Using(tube), s.Watching(tube), s.Waiting(tube), s.First(tube)}, 0, 0, 0, -1)
	}
}

// P16.8: default is a tube as others: with nobody who uses or watches it, it is not told.
func TestTubesWithoutDefault(t *testing.T) {
	s := with(t, openOf(1), openOf(2), useOf(1, "x"), watchOf(1, "y"), ignoreOf(1, "default"))
	wantTubes(t, s, "default", "x", "y")
	do(t, s, useOf(2, "y"), watchOf(2, "x"))
	wantTubes(t, s, "default", "x", "y")
	do(t, s, ignoreOf(2, "default"))
	wantTubes(t, s, "x", "y")
	do(t, s, useOf(1, "default"))
	wantTubes(t, s, "default", "x", "y")
	do(t, s, closeOf(1), closeOf(2))
	wantTubes(t, s)
}

// wantFollows is P16.10 of seats.
func wantFollows(t *testing.T, s *Seats) {
	t.Helper()
	watched, waits := 0, 0
	for _, n := range s.Nums() {
		x, there := s.Get(n)
		if !there || x.Num != n || len(x.Watched) < 1 || s.Watching(x.Watched[0]) < 1 || s.Using(x.Used) < 1 {
			t.Errorf("Get(%d) = %s, %v", n, show(x), there)
		}
		watched += len(x.Watched)
		if x.Waits {
			waits++
		}
	}
	using, watching := 0, 0
	for _, tube := range s.Tubes() {
		using += s.Using(tube)
		watching += s.Watching(tube)
		if s.Using(tube) == 0 && s.Watching(tube) == 0 {
			t.Errorf("nobody uses or watches %q", tube)
		}
	}
	for _, tube := range append(s.Tubes(), moreTubes...) {
		if first := s.First(tube); (first == -1) != (s.Waiting(tube) == 0) || first < -1 {
			t.Errorf("First(%q) = %d, where %d wait", tube, first, s.Waiting(tube))
		}
	}
	wantNums(t, []int{using, watching, len(s.Waiters())}, len(s.Nums()), watched, waits)
}

// P16.10: of seats that stand in all ways.
func TestFollows(t *testing.T) {
	s := some(t)
	wantFollows(t, s)
	for _, n := range s.Nums() {
		do(t, s, watchOf(n, "e"), useOf(n, "f"))
		wantFollows(t, s)
		do(t, s, ignoreOf(n, "default"))
		wantFollows(t, s)
		wantErr(t, s.Wait(n, 4), map[bool]api.Errno{true: api.ErrSeatWait, false: api.OK}[n == 3 || n == 63])
		wantFollows(t, s)
	}
	for _, n := range s.Nums() {
		do(t, s, closeOf(n))
		wantFollows(t, s)
	}
}
