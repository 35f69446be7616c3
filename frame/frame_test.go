package frame

import (
	"bytes"
	"encoding/binary"
	"hash/crc32"
	"iter"
	"math"
	"math/rand"
	"slices"
	"strings"
	"testing"

	"stint/api"
)

// Numbers that a file or a place may have: the ends of the bytes and of the words, and their neighbours.
var words = []int{0, 1, 2, 9, 255, 256, 257, 65535, 65536, 1<<32 - 1, 1 << 32, 1<<32 + 1, 1 << 40, 1<<56 - 1, 1 << 56, 0x0102030405060708, api.MaxWord - 1, api.MaxWord}

// Numbers that neither may have.
var wrongWords = []int{-1, -2, -256, -1 << 32, -api.MaxWord, math.MinInt, math.MinInt + 1, api.MaxWord + 1, api.MaxWord + 2, math.MaxInt - 1, math.MaxInt}

// someBytes are bytes of that many, always the same ones.
func someBytes(n int) []byte {
	b := make([]byte, n)
	rand.New(rand.NewSource(int64(n))).Read(b)
	return b
}

func wantSum(t *testing.T, b []byte, want int) {
	t.Helper()
	if got := Sum(b); got != want {
		t.Errorf("Sum(%.20x of %d) = %X; want %X", b, len(b), got, want)
	}
}

// P2.1: the chapter's examples.
func TestSumExamples(t *testing.T) {
	wantSum(t, nil, 0)
	wantSum(t, []byte{}, 0)
	wantSum(t, []byte("a"), 0xE8B7BE43)
	wantSum(t, []byte("123456789"), 0xCBF43926)
}

// sumByBits goes by the words of P2.1, bit by bit.
func sumByBits(b []byte) int {
	register := uint32(0xFFFFFFFF)
	for _, c := range b {
		register ^= uint32(c)
		for range 8 {
			out := register & 1
			register >>= 1
			if out == 1 {
				register ^= 0xEDB88320
			}
		}
	}
	return int(^register)
}

// P2.1: each byte alone, each pair of bytes, and longer ones.
func TestSumByBits(t *testing.T) {
	for i := range 256 {
		wantSum(t, []byte{byte(i)}, sumByBits([]byte{byte(i)}))
		for j := range 256 {
			b := []byte{byte(i), byte(j)}
			wantSum(t, b, sumByBits(b))
		}
	}
	for n := range 300 {
		wantSum(t, someBytes(n), sumByBits(someBytes(n)))
		wantSum(t, make([]byte, n), sumByBits(make([]byte, n)))
		ones := bytes.Repeat([]byte{255}, n)
		wantSum(t, ones, sumByBits(ones))
	}
	wantSum(t, someBytes(1<<20), sumByBits(someBytes(1<<20)))
}

// P2.1: a number from 0 to 2^32 - 1, both ends among them.
func TestSumBounds(t *testing.T) {
	wantSum(t, []byte{0xFF, 0xFF, 0xFF, 0xFF}, 1<<32-1)
	for n := range 2000 {
		if s := Sum(someBytes(n)); s < 0 || s > 1<<32-1 {
			t.Fatalf("Sum = %d", s)
		}
	}
}

// frameByWords is a frame by the words of P2.2, with the library's sum.
func frameByWords(file, place int, payload []byte) []byte {
	under := binary.LittleEndian.AppendUint64(nil, uint64(file))
	under = binary.LittleEndian.AppendUint64(under, uint64(place))
	under = append(under, payload...)
	made := binary.LittleEndian.AppendUint32(nil, uint32(len(payload)))
	made = binary.LittleEndian.AppendUint32(made, crc32.ChecksumIEEE(under))
	return append(made, payload...)
}

func wantMake(t *testing.T, file, place int, payload, want []byte) {
	t.Helper()
	if got, err := Make(file, place, payload); err != api.OK || !bytes.Equal(got, want) {
		t.Errorf("Make(%d, %d, %d bytes) = %.20x of %d, %d; want %.20x of %d", file, place, len(payload), got, len(got), err, want, len(want))
	}
}

func wantNoMake(t *testing.T, file, place int, payload []byte, want api.Errno) {
	t.Helper()
	if got, err := Make(file, place, payload); err != want || len(got) != 0 {
		t.Errorf("Make(%d, %d, %d bytes) = %d bytes, %d; want %d", file, place, len(payload), len(got), err, want)
	}
}

// made is a frame that can be made.
func made(t testing.TB, file, place int, payload []byte) []byte {
	t.Helper()
	b, err := Make(file, place, payload)
	if err != api.OK {
		t.Fatalf("Make(%d, %d, %d bytes): %d", file, place, len(payload), err)
	}
	return b
}

// P2.2, P2.3: the chapter's examples.
func TestMakeExamples(t *testing.T) {
	wantMake(t, 1, 0, []byte("a"), []byte{0x01, 0, 0, 0, 0x30, 0x6B, 0xFC, 0x74, 0x61})
	wantMake(t, 1, 9, []byte("a"), []byte{0x01, 0, 0, 0, 0x6B, 0xDD, 0x5F, 0xD8, 0x61})
	wantNoMake(t, -1, 0, []byte("a"), api.ErrFrameArg)
	wantNoMake(t, 1, 0, nil, api.ErrFrameLong)
	wantNoMake(t, 1, 0, make([]byte, 66001), api.ErrFrameLong)
}

// P2.2: the length, the sum over file, place and payload, the payload.
func TestMakeBytes(t *testing.T) {
	for _, file := range words {
		for _, place := range words {
			for _, n := range []int{1, 2, 3, 8, 300} {
				wantMake(t, file, place, someBytes(n), frameByWords(file, place, someBytes(n)))
			}
		}
	}
	for _, n := range []int{1, 254, 255, 256, 257, 511, 512, 65534, 65535, 65536, 65537, 65999, 66000} {
		wantMake(t, 3, 1<<33, someBytes(n), frameByWords(3, 1<<33, someBytes(n)))
	}
	for i := range 256 {
		wantMake(t, 1, 0, []byte{byte(i)}, frameByWords(1, 0, []byte{byte(i)}))
	}
}

// P2.3: a file or a place that may not be, whatever the payload; it is told ahead of the length.
func TestMakeWrongWords(t *testing.T) {
	for _, payload := range [][]byte{nil, {}, []byte("a"), make([]byte, 66000), make([]byte, 66001)} {
		for _, wrong := range wrongWords {
			wantNoMake(t, wrong, 0, payload, api.ErrFrameArg)
			wantNoMake(t, 0, wrong, payload, api.ErrFrameArg)
			wantNoMake(t, wrong, wrong, payload, api.ErrFrameArg)
			wantNoMake(t, api.MaxWord, wrong, payload, api.ErrFrameArg)
		}
	}
}

// P2.3: payloads that are empty or have more than MaxFrame bytes; R3: nil and empty are the same.
func TestMakeWrongLengths(t *testing.T) {
	for _, word := range words {
		wantNoMake(t, word, 0, nil, api.ErrFrameLong)
		wantNoMake(t, 0, word, []byte{}, api.ErrFrameLong)
	}
	for _, n := range []int{66001, 66002, 1 << 17, 1<<17 + 1, 1 << 24} {
		wantNoMake(t, 1, 0, make([]byte, n), api.ErrFrameLong)
	}
}

// R4: Make leaves what is handed in as it is, the spare room too, and its answers are new memory.
func TestMakeMemory(t *testing.T) {
	room := []byte("payload, and what stands behind it")
	before := string(room)
	first := made(t, 1, 0, room[:7])
	second := made(t, 1, 0, room[:7])
	want := frameByWords(1, 0, []byte("payload"))
	clear(first)
	clear(append(first, 1, 2, 3)[:cap(first)])
	if string(room) != before {
		t.Errorf("what was handed in is now %q", room)
	}
	clear(room)
	if !bytes.Equal(second, want) {
		t.Errorf("an answer is now %x; want %x", second, want)
	}
}

func wantTake(t *testing.T, file, place int, b, payload []byte, size int) {
	t.Helper()
	if got, n, err := Take(file, place, b); err != api.OK || n != size || !bytes.Equal(got, payload) {
		t.Errorf("Take(%d, %d, %.20x of %d) = %.20x of %d, %d, %d; want %.20x of %d, %d", file, place, b, len(b), got, len(got), n, err, payload, len(payload), size)
	}
}

func wantNoTake(t *testing.T, file, place int, b []byte, want api.Errno) {
	t.Helper()
	if got, n, err := Take(file, place, b); err != want || n != 0 || len(got) != 0 {
		t.Errorf("Take(%d, %d, %.20x of %d) = %d bytes, %d, %d; want %d", file, place, b, len(b), len(got), n, err, want)
	}
}

// P2.4: the chapter's examples.
func TestTakeExamples(t *testing.T) {
	a := made(t, 1, 0, []byte("a"))
	wantTake(t, 1, 0, slices.Concat(a, []byte("xyz")), []byte("a"), 9)
	wantNoTake(t, 1, 9, a, api.ErrFrameSum)
	wantNoTake(t, 2, 0, a, api.ErrFrameSum)
	wantNoTake(t, 1, 0, nil, api.ErrFrameEnd)
	wantNoTake(t, 1, 0, []byte{1, 0, 0}, api.ErrFrameTorn)
	wantNoTake(t, 1, 0, []byte{0, 0, 0, 0}, api.ErrFrameLong)
	wantNoTake(t, 1, 0, []byte{0xD1, 1, 1, 0}, api.ErrFrameLong)
	wantNoTake(t, 1, 0, a[:8], api.ErrFrameTorn)
	turned := bytes.Clone(a)
	turned[8] = 0x62
	wantNoTake(t, 1, 0, turned, api.ErrFrameSum)
}

// P2.4: a file or a place that may not be is told ahead of all else.
func TestTakeWrongWords(t *testing.T) {
	a := made(t, 1, 0, []byte("a"))
	for _, b := range [][]byte{nil, {}, {1}, {0, 0, 0, 0}, {255, 255, 255, 255}, {1, 0, 0, 0, 9}, {1, 0, 0, 0, 9, 9, 9, 9, 9}, a} {
		for _, wrong := range wrongWords {
			wantNoTake(t, wrong, 0, b, api.ErrFrameArg)
			wantNoTake(t, 1, wrong, b, api.ErrFrameArg)
			wantNoTake(t, wrong, wrong, b, api.ErrFrameArg)
		}
	}
}

// P2.4: nothing is an end, whatever the place; R3: nil and empty are the same.
func TestTakeEnd(t *testing.T) {
	for _, word := range words {
		wantNoTake(t, word, 0, nil, api.ErrFrameEnd)
		wantNoTake(t, 0, word, []byte{}, api.ErrFrameEnd)
		wantNoTake(t, word, word, []byte("behind")[:0], api.ErrFrameEnd)
	}
}

// P2.4: fewer than four bytes say no length: they are torn, whatever they are.
func TestTakeUnderFour(t *testing.T) {
	for i := range 256 {
		c := byte(i)
		for _, b := range [][]byte{{c}, {0, c}, {c, 0}, {c, c}, {0, 0, c}, {c, 0, 0}, {c, c, c}, {0, c, 0}} {
			wantNoTake(t, 1, 0, b, api.ErrFrameTorn)
		}
	}
}

// P2.4: a length that may not be is told from the fourth byte on, ahead of what is torn and of the sum.
func TestTakeLong(t *testing.T) {
	for _, length := range []uint32{0, 66001, 66002, 66256, 1 << 17, 1<<24 + 1, 1<<31 - 1, 1 << 31, 1<<31 + 1, 1<<32 - 2, 1<<32 - 1} {
		b := binary.LittleEndian.AppendUint32(nil, length)
		for _, behind := range []int{0, 1, 3, 4, 5, 100, 70000} {
			wantNoTake(t, 1, 0, slices.Concat(b, make([]byte, behind)), api.ErrFrameLong)
		}
	}
	empty := frameByWords(1, 0, nil)
	wantNoTake(t, 1, 0, empty, api.ErrFrameLong)
	wantNoTake(t, 1, 0, frameByWords(1, 0, make([]byte, 66001)), api.ErrFrameLong)
}

// P2.4: a length that may be, with fewer bytes than it asks for.
func TestTakeTorn(t *testing.T) {
	for _, length := range []uint32{1, 2, 255, 256, 65535, 65536, 66000} {
		b := binary.LittleEndian.AppendUint32(nil, length)
		for have := 4; have <= 8; have++ {
			wantNoTake(t, 1, 0, slices.Concat(b, make([]byte, have-4)), api.ErrFrameTorn)
		}
		wantNoTake(t, 1, 0, slices.Concat(b, make([]byte, 4+int(length)-1)), api.ErrFrameTorn)
		wantNoTake(t, 1, 0, slices.Concat(b, make([]byte, 4+int(length))), api.ErrFrameSum)
	}
}

// P2.4: what stands behind a frame is not looked at, also where the spare room of the list has more.
func TestTakeSpareRoom(t *testing.T) {
	a := made(t, 1, 0, []byte("abc"))
	for n := 1; n < len(a); n++ {
		wantNoTake(t, 1, 0, a[:n], api.ErrFrameTorn)
	}
	wantTake(t, 1, 0, slices.Concat(a, a)[:len(a)], []byte("abc"), 11)
}

// R4: Take leaves what is handed in as it is, and its answers are new memory, the spare room too.
func TestTakeMemory(t *testing.T) {
	b := slices.Concat(made(t, 1, 0, []byte("payload")), []byte("and what stands behind it"))
	before := bytes.Clone(b)
	first, _, _ := Take(1, 0, b)
	second, _, _ := Take(1, 0, b)
	clear(first[:cap(first)])
	_ = append(first, "spoilt"...)
	if !bytes.Equal(b, before) {
		t.Errorf("what was handed in is now %x", b)
	}
	clear(b)
	if string(second) != "payload" {
		t.Errorf("an answer is now %q", second)
	}
}

// told is a frame as All gives it.
type told struct {
	place   int
	payload string
}

func tellAll(seq iter.Seq2[int, []byte]) []told {
	var all []told
	for place, payload := range seq {
		all = append(all, told{place, string(payload)})
	}
	return all
}

// row is the frames of some payloads, one behind the other, and what All has to give of them.
func row(t testing.TB, file int, payloads ...[]byte) ([]byte, []told) {
	t.Helper()
	var b []byte
	var want []told
	for _, payload := range payloads {
		want = append(want, told{len(b), string(payload)})
		b = append(b, made(t, file, len(b), payload)...)
	}
	return b, want
}

func wantAll(t *testing.T, file int, b []byte, want []told) {
	t.Helper()
	if got := tellAll(All(file, b)); !slices.Equal(got, want) {
		t.Errorf("All(%d, %d bytes) = %.20v of %d; want %.20v of %d", file, len(b), got[:min(len(got), 5)], len(got), want[:min(len(want), 5)], len(want))
	}
	end := 0
	for _, frame := range want {
		end += 8 + len(frame.payload)
	}
	if got := Whole(file, b); got != end {
		t.Errorf("Whole(%d, %d bytes) = %d; want %d", file, len(b), got, end)
	}
}

// P2.5, P2.6: the chapter's examples.
func TestAllExamples(t *testing.T) {
	b := slices.Concat(made(t, 1, 0, []byte("a")), made(t, 1, 9, []byte("a")), []byte{1, 0})
	wantAll(t, 1, b, []told{{0, "a"}, {9, "a"}})
	wantAll(t, 2, b, nil)
	wantAll(t, 1, nil, nil)
	for _, k := range []struct {
		file int
		b    []byte
		want int
	}{{1, b, 18}, {2, b, 0}, {1, nil, 0}} {
		if got := Whole(k.file, k.b); got != k.want {
			t.Errorf("Whole(%d, %x) = %d; want %d", k.file, k.b, got, k.want)
		}
	}
}

// P2.5, P2.6: up to the first place at which Take answers an error, whichever error it is.
func TestAllStops(t *testing.T) {
	b, want := row(t, 7, []byte("one"), []byte("two, longer"), []byte{0})
	last := made(t, 7, len(b), []byte("last"))
	turned := bytes.Clone(last)
	turned[len(turned)-1] ^= 1
	elsewhere := made(t, 7, len(b)+1, []byte("last"))
	other := made(t, 8, len(b), []byte("last"))
	for _, behind := range [][]byte{nil, {1}, {1, 0, 0}, {0, 0, 0, 0}, {0xD1, 1, 1, 0}, last[:len(last)-1], turned, elsewhere, other, make([]byte, 100), bytes.Repeat([]byte{255}, 100)} {
		wantAll(t, 7, slices.Concat(b, behind), want)
		if len(behind) > 0 {
			wantAll(t, 7, slices.Concat(b, behind, last), want)
		}
	}
	wantAll(t, 7, slices.Concat(b, last), append(want, told{len(b), "last"}))
	for _, broken := range []int{0, 4, 8, 11, 15, 19} {
		spoilt := bytes.Clone(b)
		spoilt[broken] ^= 0x80
		wantAll(t, 7, spoilt, want[:broken/11])
	}
}

// P2.5, P2.6: none, if the file may not be.
func TestAllWrongFile(t *testing.T) {
	for _, wrong := range wrongWords {
		for _, b := range [][]byte{nil, {}, made(t, 1, 0, []byte("a")), frameByWords(wrong, 0, []byte("a"))} {
			if All(wrong, b) == nil {
				t.Fatal("All is nil")
			}
			wantAll(t, wrong, b, nil)
		}
	}
	for _, file := range words {
		b, want := row(t, file, []byte("a"), []byte("b"))
		wantAll(t, file, b, want)
	}
}

// P2.5: what b has is taken when All is called.
func TestAllTaken(t *testing.T) {
	b, want := row(t, 1, []byte("first"), []byte("second"), []byte("third"))
	seq := All(1, b)
	clear(b)
	if got := tellAll(seq); !slices.Equal(got, want) {
		t.Errorf("b was changed behind the call: %v", got)
	}
	b, want = row(t, 1, []byte("first"), []byte("second"), []byte("third"))
	var got []told
	for place, payload := range All(1, b) {
		got = append(got, told{place, string(payload)})
		clear(b)
	}
	if !slices.Equal(got, want) {
		t.Errorf("b was changed while it ran: %v", got)
	}
	short, _ := row(t, 1, []byte("first"))
	room, want := row(t, 1, []byte("first"), []byte("second"))
	wantAll(t, 1, room[:len(short)], want[:1])
}

// R6: an iterator is never nil, may be left early, gone through again, and within itself.
func TestAllIterator(t *testing.T) {
	b, want := row(t, 1, []byte("first"), []byte("second"), []byte("third"))
	seq := All(1, b)
	for stop := 1; stop <= len(want); stop++ {
		n := 0
		for range seq {
			if n++; n == stop {
				break
			}
		}
		if n != stop {
			t.Errorf("it told %d, and was to be left at %d", n, stop)
		}
	}
	var outer []told
	for place, payload := range seq {
		outer = append(outer, told{place, string(payload)})
		if inner := tellAll(seq); !slices.Equal(inner, want) {
			t.Errorf("within itself: %v", inner)
		}
	}
	if !slices.Equal(outer, want) {
		t.Errorf("with one within: %v", outer)
	}
	if All(1, nil) == nil || All(1, []byte{}) == nil {
		t.Error("an iterator over nothing is nil")
	}
	for place, payload := range All(1, []byte{}) {
		t.Errorf("nothing gives %d, %x", place, payload)
	}
}

// R4: payloads are new memory each time, and what is handed in stays as it is.
func TestAllMemory(t *testing.T) {
	b, want := row(t, 1, []byte("first"), []byte("second"), []byte("third"))
	before := bytes.Clone(b)
	seq := All(1, b)
	var payloads [][]byte
	for _, payload := range seq {
		payloads = append(payloads, payload)
	}
	for i, payload := range payloads {
		if string(payload) != want[i].payload {
			t.Errorf("a payload shows what was written into another: %q", payload)
		}
		for j := range payload[:cap(payload)] {
			payload[:cap(payload)][j] = 'z'
		}
	}
	if got := tellAll(seq); !slices.Equal(got, want) {
		t.Errorf("a later range shows what was written: %v", got)
	}
	var got []told
	for place, payload := range seq {
		got = append(got, told{place, string(payload)})
		clear(payload)
		_ = append(payload, "spoilt"...)
	}
	if !slices.Equal(got, want) {
		t.Errorf("writing while it runs is seen: %v", got)
	}
	Whole(1, b)
	if !bytes.Equal(b, before) {
		t.Errorf("what was handed in is now %x", b)
	}
}

// P2.7: Take of what Make answers, with whatever bytes behind it, is the payload and the frame's length.
func TestMakeThenTake(t *testing.T) {
	for _, n := range []int{1, 2, 7, 255, 256, 66000} {
		payload := someBytes(n)
		for _, file := range words {
			place := words[len(words)-1] - file
			b := made(t, file, place, payload)
			for _, behind := range []string{"", "\x00", "\xff", "xyz", string(b[:min(len(b), 30)])} {
				wantTake(t, file, place, slices.Concat(b, []byte(behind)), payload, n+8)
			}
		}
	}
}

// P2.7: where Take answers OK, Make of its payload is just the bytes that it took.
func TestTakeThenMake(t *testing.T) {
	right := 0
	pick := rand.New(rand.NewSource(2))
	for range 20000 {
		b := frameByWords(1, 5, someBytes(pick.Intn(6)))
		if pick.Intn(2) == 0 {
			b[pick.Intn(len(b))] ^= byte(1 << pick.Intn(8))
		}
		b = slices.Concat(b, someBytes(pick.Intn(5)))
		payload, size, err := Take(1, 5, b)
		if err != api.OK {
			continue
		}
		right++
		wantMake(t, 1, 5, payload, b[:size])
	}
	if right == 0 {
		t.Fatal("no frame was taken")
	}
}

// P2.7: a frame without some of its last bytes is torn, as long as one byte is left.
func TestTakeShortened(t *testing.T) {
	for _, n := range []int{1, 2, 5, 255, 256, 257, 1000} {
		b := made(t, 4, 77, someBytes(n))
		for left := 1; left < len(b); left++ {
			wantNoTake(t, 4, 77, b[:left], api.ErrFrameTorn)
			wantNoTake(t, 4, 77, bytes.Clone(b[:left]), api.ErrFrameTorn)
		}
		wantNoTake(t, 4, 77, b[:0], api.ErrFrameEnd)
	}
	b := made(t, 4, 77, someBytes(66000))
	for _, left := range []int{1, 8, 9, 65536, 66007} {
		wantNoTake(t, 4, 77, b[:left], api.ErrFrameTorn)
	}
}

// P2.8: bits of the sum that are turned.
func TestTakeTurnedSum(t *testing.T) {
	a := made(t, 1, 0, []byte("payload"))
	turn := func(mask uint32) {
		b := bytes.Clone(a)
		binary.LittleEndian.PutUint32(b[4:], binary.LittleEndian.Uint32(b[4:])^mask)
		wantNoTake(t, 1, 0, b, api.ErrFrameSum)
	}
	for i := range 32 {
		for j := range 32 {
			turn(1<<i | 1<<j)
		}
	}
	turn(1<<32 - 1)
	pick := rand.New(rand.NewSource(8))
	for range 5000 {
		turn(pick.Uint32() | 1)
	}
}

// turnBits turns the bits of a mask in some bytes, from a bit on, in each byte from the lowest one on.
func turnBits(b []byte, from int, mask uint32) {
	for i := range 32 {
		if bit := from + i; mask>>i&1 == 1 && bit < 8*len(b) {
			b[bit/8] ^= 1 << (bit % 8)
		}
	}
}

// P2.8: bits of the payload that are turned, within 32 that follow one another.
func TestTakeTurnedPayload(t *testing.T) {
	pick := rand.New(rand.NewSource(9))
	for _, n := range []int{1, 2, 4, 5, 9, 40} {
		a := made(t, 1, 50, someBytes(n))
		for from := range 8 * n {
			masks := []uint32{1, 3, 1<<31 | 1, 1<<32 - 1, 0xEDB88321, 0xDB710641, 0x04C11DB7}
			for range 20 {
				masks = append(masks, pick.Uint32()|1)
			}
			for _, mask := range masks {
				b := bytes.Clone(a)
				turnBits(b[8:], from, mask)
				wantNoTake(t, 1, 50, b, api.ErrFrameSum)
			}
		}
	}
}

// P2.9: a frame that was made for another place, or for another file, below 2^32.
func TestTakeElsewhere(t *testing.T) {
	small := []int{0, 1, 2, 9, 127, 128, 255, 256, 65535, 65536, 1<<24 - 1, 1 << 24, 1 << 31, 1<<32 - 2, 1<<32 - 1}
	for i := range 32 {
		small = append(small, 1<<i|1<<((i+5)%32))
	}
	for _, payload := range [][]byte{{0}, []byte("a"), someBytes(100)} {
		for _, one := range small {
			for _, other := range small {
				if one == other {
					continue
				}
				wantNoTake(t, 5, one, made(t, 5, other, payload), api.ErrFrameSum)
				wantNoTake(t, one, 5, made(t, other, 5, payload), api.ErrFrameSum)
			}
		}
	}
}

// P2.10: frames that were made one behind the other are given just so, whatever stands behind them.
func TestAllOfMade(t *testing.T) {
	pick := rand.New(rand.NewSource(10))
	for range 300 {
		file := words[pick.Intn(len(words))]
		payloads := make([][]byte, pick.Intn(6))
		for i := range payloads {
			payloads[i] = someBytes(1 + pick.Intn(40))
		}
		b, want := row(t, file, payloads...)
		wantAll(t, file, b, want)
		behind := someBytes(pick.Intn(30))
		wantAll(t, file, slices.Concat(b, behind), want)
		wantAll(t, file, slices.Concat(b, made(t, file, len(b), []byte("more")), behind), append(want, told{len(b), "more"}))
		if len(b) > 0 {
			wantAll(t, file, slices.Concat(b, b), want)
		}
	}
	b, want := row(t, 1, someBytes(66000), someBytes(1), someBytes(66000), someBytes(2))
	wantAll(t, 1, b, want)
	wantAll(t, 1, b[:len(b)-1], want[:3])
	var many [][]byte
	for i := range 20000 {
		many = append(many, []byte(strings.Repeat("x", 1+i%3)))
	}
	b, want = row(t, 1, many...)
	wantAll(t, 1, b, want)
}

// The layer's limit and the numbers of its errors, and that there are no others, whatever the bytes are.
func TestNumbers(t *testing.T) {
	if api.MaxFrame != 66000 || api.MaxWord != 1<<62-1 {
		t.Error("the limits are other ones")
	}
	got := []api.Errno{api.ErrFrameEnd, api.ErrFrameTorn, api.ErrFrameLong, api.ErrFrameSum, api.ErrFrameArg}
	if !slices.Equal(got, []api.Errno{20, 21, 22, 23, 24}) {
		t.Errorf("the errors are %v", got)
	}
	pick := rand.New(rand.NewSource(11))
	for range 20000 {
		b := someBytes(pick.Intn(40))
		if len(b) > 4 {
			copy(b[1:4], []byte{0, 0, 0})
		}
		payload, size, err := Take(pick.Intn(5)-1, pick.Intn(5)-1, b)
		if err != api.OK && (!slices.Contains(got, err) || size != 0 || len(payload) != 0) {
			t.Fatalf("Take(%x) = %x, %d, %d", b, payload, size, err)
		}
	}
}
