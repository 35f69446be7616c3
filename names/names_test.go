package names

import (
	"fmt"
	"iter"
	"maps"
	"math/rand"
	"slices"
	"strings"
	"testing"
	"unsafe"

	"stint/api"
)

// All bytes that a name may have.
const rightBytes = "abcdefghijklmnopqrstuvwxyz" + "ABCDEFGHIJKLMNOPQRSTUVWXYZ" + "0123456789" + "-+/;.$_()"

// Texts that are no names.
var wrongNames = []string{
	"", "-", "-a", "--", "a b", " a", "a ", "a,b", "é", "aé", "a\n", "a\r", "a\x00", "\x00", "\xff", "a\xff",
	"a\x80", "a:b", "a*b", "a=b", "a?b", "a@b", "a[b", "a`b", "a{b", "a\\b", "a^b", "a~b", "a\tb", "日本",
	"-" + strings.Repeat("a", 199), strings.Repeat("a", 201), strings.Repeat("a", 200) + "-",
	strings.Repeat("é", 100), strings.Repeat("a", 100000),
}

type pair struct {
	name  string
	count int
}

// String shortens long names, so that a failure can be read.
func (p pair) String() string { return fmt.Sprintf("%.30q %d", p.name, p.count) }

func told(seq iter.Seq2[string, int]) []pair {
	var pairs []pair
	for name, count := range seq {
		pairs = append(pairs, pair{name, count})
	}
	return pairs
}

// wantBook holds all that a book tells against the pairs that should be in it.
func wantBook(t *testing.T, b *Book, want ...pair) {
	t.Helper()
	if got := told(b.All()); !slices.Equal(got, want) {
		t.Errorf("All() = %v; want %v", got, want)
	}
	var list []string
	for _, p := range want {
		list = append(list, p.name)
		wantCount(t, b, p.name, p.count)
	}
	if got := b.Names(); !slices.Equal(got, list) {
		t.Errorf("Names() = %.30q; want %.30q", got, list)
	}
	if got := b.Len(); got != len(want) {
		t.Errorf("Len() = %d; want %d", got, len(want))
	}
}

func wantCount(t *testing.T, b *Book, name string, want int) {
	t.Helper()
	if got := b.Count(name); got != want {
		t.Errorf("Count(%.30q) = %d; want %d", name, got, want)
	}
}

func wantHold(t *testing.T, b *Book, name string, count int, err api.Errno) {
	t.Helper()
	if n, e := b.Hold(name); n != count || e != err {
		t.Errorf("Hold(%.30q) = %d, %d; want %d, %d", name, n, e, count, err)
	}
}

func wantDrop(t *testing.T, b *Book, name string, count int, ok bool) {
	t.Helper()
	if n, there := b.Drop(name); n != count || there != ok {
		t.Errorf("Drop(%.30q) = %d, %v; want %d, %v", name, n, there, count, ok)
	}
}

func wantValid(t *testing.T, name string, want bool) {
	t.Helper()
	if got := Valid(name); got != want {
		t.Errorf("Valid(%.30q), of %d bytes, = %v; want %v", name, len(name), got, want)
	}
}

// bookOf holds each name as often as it is among these.
func bookOf(list ...string) *Book {
	b := New()
	for _, name := range list {
		b.Hold(name)
	}
	return b
}

// The chapter's examples, line by line.
func TestExamples(t *testing.T) {
	for _, name := range []string{"a", "a-b+c/d;e.f$g_h(i)J9", "9", strings.Repeat("a", 200)} {
		wantValid(t, name, true)
	}
	for _, name := range []string{"", "-a", "a b", "a,b", "é", strings.Repeat("a", 201)} {
		wantValid(t, name, false)
	}

	b := New()
	wantHold(t, b, "b", 1, api.OK)
	wantHold(t, b, "a", 1, api.OK)
	wantHold(t, b, "b", 2, api.OK)
	wantHold(t, b, "-", 0, api.ErrName)
	wantBook(t, b, pair{"a", 1}, pair{"b", 2})
	wantCount(t, b, "c", 0)
	wantDrop(t, b, "a", 0, true)
	wantDrop(t, b, "a", 0, false)
	wantDrop(t, b, "b", 1, true)
	wantDrop(t, b, "-", 0, false)
	wantBook(t, b, pair{"b", 1})
}

// P5.1: each byte there is, as the whole name, as its first, a middle and its last byte.
func TestValidBytes(t *testing.T) {
	for n := range 256 {
		c := string([]byte{byte(n)})
		right := strings.Contains(rightBytes, c)
		first := right && c != "-"
		wantValid(t, c, first)
		wantValid(t, c+"a", first)
		wantValid(t, c+strings.Repeat("a", 199), first)
		wantValid(t, "a"+c, right)
		wantValid(t, "a"+c+"a", right)
		wantValid(t, strings.Repeat("a", 199)+c, right)
		wantValid(t, strings.Repeat("a", 100)+c+strings.Repeat("Z", 99), right)
	}
}

// P5.1: of each length, and with dashes behind the first byte.
func TestValidLengths(t *testing.T) {
	for n := range 450 {
		wantValid(t, strings.Repeat("x", n), 1 <= n && n <= 200)
		wantValid(t, "x"+strings.Repeat("-", n), n < 200)
		wantValid(t, "-"+strings.Repeat("x", n), false)
	}
	wantValid(t, "default", true)
	wantValid(t, "a--", true)
	for _, name := range wrongNames {
		wantValid(t, name, false)
	}
}

// P5.2
func TestNew(t *testing.T) {
	b := New()
	if b == nil {
		t.Fatal("New() = nil")
	}
	wantBook(t, b)
	for _, name := range append([]string{"a", "default"}, wrongNames...) {
		wantCount(t, b, name, 0)
		wantDrop(t, b, name, 0, false)
	}
	wantBook(t, b)
}

// P5.2: two books have nothing to do with each other.
func TestNewTwice(t *testing.T) {
	b, c := New(), New()
	wantHold(t, b, "a", 1, api.OK)
	wantHold(t, b, "a", 2, api.OK)
	wantBook(t, c)
	wantHold(t, c, "a", 1, api.OK)
	wantBook(t, b, pair{"a", 2})
	wantBook(t, c, pair{"a", 1})
}

// P5.3, the limit: the longest name is held, and each that begins as another does is a name of its own.
func TestHold(t *testing.T) {
	long := strings.Repeat("a", 200)
	b := New()
	for n := 1; n <= 5; n++ {
		wantHold(t, b, long, n, api.OK)
	}
	wantHold(t, b, long[1:], 1, api.OK)
	wantHold(t, b, "a", 1, api.OK)
	wantHold(t, b, "A", 1, api.OK)
	wantHold(t, b, "a-", 1, api.OK)
	wantBook(t, b, pair{"A", 1}, pair{"a", 1}, pair{"a-", 1}, pair{long[1:], 1}, pair{long, 5})
}

// P5.3, R2: what Valid refuses is refused each time, and changes nothing.
func TestHoldWrong(t *testing.T) {
	b := bookOf("a", "b", "b")
	for range 2 {
		for _, name := range wrongNames {
			wantHold(t, b, name, 0, api.ErrName)
			wantCount(t, b, name, 0)
			wantDrop(t, b, name, 0, false)
		}
	}
	wantBook(t, b, pair{"a", 1}, pair{"b", 2})
	wantHold(t, b, "b", 3, api.OK)
}

// P5.4: down to nothing, out of the book, and in again from 1 on.
func TestDrop(t *testing.T) {
	b := bookOf("x", "x", "x", "y")
	wantDrop(t, b, "x", 2, true)
	wantBook(t, b, pair{"x", 2}, pair{"y", 1})
	wantDrop(t, b, "x", 1, true)
	wantBook(t, b, pair{"x", 1}, pair{"y", 1})
	wantDrop(t, b, "x", 0, true)
	wantBook(t, b, pair{"y", 1})
	for range 3 {
		wantDrop(t, b, "x", 0, false)
	}
	wantCount(t, b, "x", 0)
	wantHold(t, b, "x", 1, api.OK)
	wantBook(t, b, pair{"x", 1}, pair{"y", 1})
	wantDrop(t, b, "y", 0, true)
	wantDrop(t, b, "x", 0, true)
	wantBook(t, b)
}

// P5.4: names that are near to one that is held.
func TestDropWrong(t *testing.T) {
	b := bookOf("ab")
	for _, name := range append([]string{"a", "b", "AB", "abc", "ab-", "ba", "default"}, wrongNames...) {
		wantDrop(t, b, name, 0, false)
		wantCount(t, b, name, 0)
	}
	wantBook(t, b, pair{"ab", 1})
}

// P5.5: asking lays no name into the book, and takes none out.
func TestAskingChangesNothing(t *testing.T) {
	b := bookOf("m", "m")
	for range 3 {
		wantCount(t, b, "m", 2)
		wantCount(t, b, "n", 0)
		wantCount(t, b, "", 0)
		wantBook(t, b, pair{"m", 2})
	}
}

// P5.5, R9: they rise byte by byte, whatever order they were held in.
func TestRising(t *testing.T) {
	rising := []string{
		"$", "(", ")", "+", ".", "/", "0", "10", "2", "9", ";", "A", "B", "Z", "_", "a", "a$", "a-", "a-b", "aA", "a_",
		"aa", "ab", "b", "z", strings.Repeat("z", 199), strings.Repeat("z", 200),
	}
	dice := rand.New(rand.NewSource(5))
	for range 50 {
		b := New()
		for _, i := range dice.Perm(len(rising)) {
			b.Hold(rising[i])
		}
		if got := b.Names(); !slices.Equal(got, rising) {
			t.Fatalf("Names() = %.30q; want %.30q", got, rising)
		}
		var got []string
		for name := range b.All() {
			got = append(got, name)
		}
		if !slices.Equal(got, rising) {
			t.Fatalf("All() tells %.30q; want %.30q", got, rising)
		}
	}
}

// P5.5, R4: a list of names is its asker's own, its spare room too.
func TestNamesIsNew(t *testing.T) {
	b := bookOf("a", "b", "c")
	one, two := b.Names(), b.Names()
	room := one[:cap(one)]
	for i := range room {
		room[i] = "z"
	}
	_ = append(one, "y")
	if !slices.Equal(two, []string{"a", "b", "c"}) {
		t.Errorf("an earlier answer shows %q", two)
	}
	wantBook(t, b, pair{"a", 1}, pair{"b", 1}, pair{"c", 1})
	b.Drop("a")
	b.Hold("d")
	if !slices.Equal(two, []string{"a", "b", "c"}) {
		t.Errorf("an earlier answer follows the book: %q", two)
	}
}

// P5.5, R6: an iterator that was asked for tells what there is when a range over it begins.
func TestAllTellsWhatThereIsThen(t *testing.T) {
	b := New()
	seq := b.All()
	if seq == nil {
		t.Fatal("All() = nil")
	}
	wantTold := func(want ...pair) {
		t.Helper()
		if got := told(seq); !slices.Equal(got, want) {
			t.Errorf("told %v; want %v", got, want)
		}
	}
	wantTold()
	b.Hold("b")
	wantTold(pair{"b", 1})
	b.Hold("a")
	b.Hold("b")
	wantTold(pair{"a", 1}, pair{"b", 2})
	b.Drop("a")
	b.Drop("b")
	wantTold(pair{"b", 1})
	b.Drop("b")
	wantTold()
}

// P5.5, R6: whatever is changed while it runs, it tells what there was.
func TestAllWhileThingsChange(t *testing.T) {
	all := []string{"a", "b", "c", "d", "e"}
	changes := map[string]func(b *Book, name string){
		"the told one is dropped":       func(b *Book, name string) { b.Drop(name) },
		"the next one is dropped":       func(b *Book, name string) { b.Drop(string(name[0] + 1)) },
		"the last one is dropped":       func(b *Book, name string) { b.Drop("e") },
		"the told one is held":          func(b *Book, name string) { b.Hold(name) },
		"the next one is held":          func(b *Book, name string) { b.Hold(string(name[0] + 1)) },
		"one is held right behind":      func(b *Book, name string) { b.Hold(name + "x") },
		"many are held":                 func(b *Book, name string) { holdMany(b) },
		"all are dropped":               func(b *Book, name string) { dropAll(b) },
		"all are dropped, another held": func(b *Book, name string) { dropAll(b); b.Hold("bb") },
	}
	for what, change := range changes {
		b := bookOf(all...)
		b.Hold("c")
		var got []pair
		for name, count := range b.All() {
			if len(got) > 100 {
				break
			}
			got = append(got, pair{name, count})
			change(b, name)
		}
		if want := []pair{{"a", 1}, {"b", 1}, {"c", 2}, {"d", 1}, {"e", 1}}; !slices.Equal(got, want) {
			t.Errorf("%s: %v; want %v", what, got, want)
		}
	}
}

func holdMany(b *Book) {
	for c := 'a'; c <= 'z'; c++ {
		for d := 'a'; d <= 'z'; d++ {
			b.Hold(string(c) + string(d))
		}
	}
}

func dropAll(b *Book) {
	for _, name := range b.Names() {
		for b.Count(name) > 0 {
			b.Drop(name)
		}
	}
}

// P5.5, R6: left early at each place, and gone through again.
func TestAllLeftEarly(t *testing.T) {
	b := bookOf("c", "a", "b", "b")
	want := []pair{{"a", 1}, {"b", 2}, {"c", 1}}
	seq := b.All()
	for stop := 1; stop <= 3; stop++ {
		var got []pair
		for name, count := range seq {
			got = append(got, pair{name, count})
			if len(got) == stop {
				break
			}
		}
		if !slices.Equal(got, want[:stop]) {
			t.Errorf("left at %d: %v; want %v", stop, got, want[:stop])
		}
	}
	n := 0
	seq(func(string, int) bool { n++; return false })
	if n != 1 {
		t.Errorf("called %d times, though told to stop", n)
	}
	wantBook(t, b, want...)
}

// P5.5, R6: gone through within itself, the inner ranges telling what there is when they begin.
func TestAllWithinItself(t *testing.T) {
	b := bookOf("a", "b", "c")
	seq := b.All()
	left := []pair{{"a", 1}, {"b", 1}, {"c", 1}}
	var outer []pair
	for name, count := range seq {
		outer = append(outer, pair{name, count})
		if got := told(seq); !slices.Equal(got, left) {
			t.Errorf("within %s: %v; want %v", name, got, left)
		}
		b.Drop(name)
		b.Hold("z" + name)
		left = append(left[1:], pair{"z" + name, 1})
	}
	if want := []pair{{"a", 1}, {"b", 1}, {"c", 1}}; !slices.Equal(outer, want) {
		t.Errorf("outer %v; want %v", outer, want)
	}
	wantBook(t, b, pair{"za", 1}, pair{"zb", 1}, pair{"zc", 1})
}

// P5.5, R6: two that are pulled side by side go their own ways.
func TestAllPulled(t *testing.T) {
	b := bookOf("a", "b")
	one, stopOne := iter.Pull2(b.All())
	defer stopOne()
	two, stopTwo := iter.Pull2(b.All())
	defer stopTwo()
	one()
	b.Drop("a")
	two()
	b.Drop("b")
	if name, count, ok := one(); name != "b" || count != 1 || !ok {
		t.Errorf("one: %s, %d, %v; want b, 1, true", name, count, ok)
	}
	if name, count, ok := two(); ok {
		t.Errorf("two: %s, %d, %v; want the end", name, count, ok)
	}
}

// P5.6, R7
func TestClone(t *testing.T) {
	b := bookOf("a", "b", "b", "c")
	b.Drop("c")
	c := b.Clone()
	wantBook(t, c, pair{"a", 1}, pair{"b", 2})
	wantCount(t, c, "c", 0)

	wantDrop(t, b, "a", 0, true)
	wantHold(t, b, "b", 3, api.OK)
	wantHold(t, b, "d", 1, api.OK)
	wantBook(t, c, pair{"a", 1}, pair{"b", 2})
	wantCount(t, c, "d", 0)

	wantHold(t, c, "a", 2, api.OK)
	wantDrop(t, c, "b", 1, true)
	wantDrop(t, c, "b", 0, true)
	wantHold(t, c, "e", 1, api.OK)
	wantHold(t, c, "-", 0, api.ErrName)
	wantBook(t, c, pair{"a", 2}, pair{"e", 1})
	wantBook(t, b, pair{"b", 3}, pair{"d", 1})
}

// P5.6, R7: of an empty book, of one that is empty again, and of a clone.
func TestCloneOfEmptyAndOfClone(t *testing.T) {
	again := bookOf("a")
	again.Drop("a")
	for _, b := range []*Book{New(), again} {
		c := b.Clone()
		wantBook(t, c)
		wantDrop(t, c, "a", 0, false)
		d := c.Clone()
		wantHold(t, c, "a", 1, api.OK)
		wantHold(t, d, "b", 1, api.OK)
		wantBook(t, b)
		wantBook(t, c, pair{"a", 1})
		wantBook(t, d, pair{"b", 1})
	}
}

// P5.6, R6, R7: an iterator is of the book that it was asked of.
func TestCloneAndIterators(t *testing.T) {
	b := bookOf("a")
	seq := b.All()
	c := b.Clone()
	other := c.All()
	c.Hold("c")
	b.Hold("b")
	if got, want := told(seq), []pair{{"a", 1}, {"b", 1}}; !slices.Equal(got, want) {
		t.Errorf("the book: %v; want %v", got, want)
	}
	if got, want := told(other), []pair{{"a", 1}, {"c", 1}}; !slices.Equal(got, want) {
		t.Errorf("the clone: %v; want %v", got, want)
	}
}

// P5.7: whichever way a book came to be, it tells the same.
func TestOrderIsNotSeen(t *testing.T) {
	want := []pair{{"a", 2}, {"b", 1}, {"d", 3}}
	wantBook(t, bookOf("a", "a", "b", "d", "d", "d"), want...)
	wantBook(t, bookOf("d", "b", "d", "a", "d", "a"), want...)

	b := bookOf("c", "d", "b", "b")
	b.Drop("c")
	b.Drop("b")
	b.Drop("b")
	b.Drop("b")
	b.Drop("a")
	for _, name := range []string{"a", "d", "b", "d", "c", "a"} {
		b.Hold(name)
	}
	b.Drop("c")
	wantBook(t, b, want...)
}

// R4: a name that comes as a piece of a long text leaves the text free, whether it is held first, again, or dropped.
func TestLongTextsAreNotKept(t *testing.T) {
	text := strings.Repeat("tube", 1000)
	begin := uintptr(unsafe.Pointer(unsafe.StringData(text)))
	piece := func(place int) string { return text[place : place+4] }
	wantFree := func(when string, b *Book) {
		t.Helper()
		for _, name := range b.Names() {
			if at := uintptr(unsafe.Pointer(unsafe.StringData(name))); begin <= at && at < begin+uintptr(len(text)) {
				t.Errorf("%s: the book has a piece of the text", when)
			}
		}
	}
	b := New()
	wantHold(t, b, piece(0), 1, api.OK)
	wantFree("held", b)
	wantHold(t, b, piece(40), 2, api.OK)
	wantFree("held again", b)
	wantDrop(t, b, piece(80), 1, true)
	wantFree("dropped", b)
	wantFree("cloned", b.Clone())
	wantBook(t, b, pair{"tube", 1})
}

// plain is what a book should tell: the names that Hold took, less those that Drop took.
type plain []string

func (p plain) count(name string) int {
	n := 0
	for _, x := range p {
		if x == name {
			n++
		}
	}
	return n
}

func (p plain) pairs() []pair {
	var pairs []pair
	for _, name := range slices.Compact(slices.Sorted(slices.Values(p))) {
		pairs = append(pairs, pair{name, p.count(name)})
	}
	return pairs
}

// P5.3 to P5.7: long random plays, with clones, against a plain list.
func TestAgainstPlain(t *testing.T) {
	texts := []string{"a", "b", "ab", "A", "a-", "9", "$", "default", "", "-", "-a", "a b", "é"}
	for seed := range int64(60) {
		dice := rand.New(rand.NewSource(seed))
		books, plains := []*Book{New()}, []plain{nil}
		for step := range 300 {
			i := dice.Intn(len(books))
			name := texts[dice.Intn(len(texts))]
			switch n := dice.Intn(20); {
			case n == 0 && len(books) < 4:
				books, plains = append(books, books[i].Clone()), append(plains, slices.Clone(plains[i]))
			case n < 10:
				plains[i] = playHold(t, books[i], plains[i], name)
			default:
				plains[i] = playDrop(t, books[i], plains[i], name)
			}
			for k, b := range books {
				wantBook(t, b, plains[k].pairs()...)
			}
			if t.Failed() {
				t.Fatalf("seed %d, step %d", seed, step)
			}
		}
	}
}

func playHold(t *testing.T, b *Book, p plain, name string) plain {
	t.Helper()
	if name == "" || name[0] == '-' || name == "a b" || name == "é" {
		wantHold(t, b, name, 0, api.ErrName)
		return p
	}
	wantHold(t, b, name, p.count(name)+1, api.OK)
	return append(p, name)
}

func playDrop(t *testing.T, b *Book, p plain, name string) plain {
	t.Helper()
	i := slices.Index(p, name)
	if i < 0 {
		wantDrop(t, b, name, 0, false)
		return p
	}
	p = slices.Delete(p, i, i+1)
	wantDrop(t, b, name, p.count(name), true)
	return p
}

// P5.7: many names, each held many times.
func TestGreatBook(t *testing.T) {
	counts := map[string]int{}
	b := New()
	for n := range 200000 {
		name := "t" + strings.Repeat("x", n%197) + string(rightBytes[n%71])
		counts[name]++
		wantHold(t, b, name, counts[name], api.OK)
	}
	if t.Failed() {
		t.FailNow()
	}
	if b.Len() != len(counts) || !slices.IsSorted(b.Names()) || !maps.Equal(maps.Collect(b.All()), counts) {
		t.Fatal("the book tells something else than what was held")
	}
	for name, count := range counts {
		for count > 0 {
			count--
			wantDrop(t, b, name, count, true)
		}
	}
	wantBook(t, b)
}
