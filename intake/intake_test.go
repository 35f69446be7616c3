package intake

import (
	"bytes"
	"fmt"
	"math"
	"math/rand"
	"slices"
	"strings"
	"testing"
	"time"

	"stint/api"
)

// of is a text in which each point stands for CR LF.
func of(text string) []byte { return []byte(strings.ReplaceAll(text, ".", "\r\n")) }

func as(n int) string { return strings.Repeat("a", n) }

func fresh(t *testing.T, most int, text string) *Intake {
	t.Helper()
	i, err := New(most)
	if i == nil || err != api.OK {
		t.Fatalf("New(%d) = %v, %d", most, i, err)
	}
	i.Feed(of(text))
	return i
}

func show(x api.Item, ok bool) string {
	return fmt.Sprintf("kind %d, text %.40q of %d, body %.40q of %d, %v", x.Kind, x.Text, len(x.Text), x.Body, len(x.Body), ok)
}

func wantItem(t *testing.T, i *Intake, want api.Item) {
	t.Helper()
	if x, ok := i.Next(); !ok || !same(x, want) {
		t.Fatalf("Next() = %s; want %s", show(x, ok), show(want, true))
	}
}

// same holds two items against each other; a nil body is an empty one.
func same(x, y api.Item) bool {
	return x.Kind == y.Kind && x.Text == y.Text && bytes.Equal(x.Body, y.Body)
}

func wantLine(t *testing.T, i *Intake, text string) {
	t.Helper()
	wantItem(t, i, api.Item{Kind: api.ItemLine, Text: text})
}

func wantBody(t *testing.T, i *Intake, body string) {
	t.Helper()
	wantItem(t, i, api.Item{Kind: api.ItemBody, Body: []byte(body)})
}

func wantKind(t *testing.T, i *Intake, kind int) {
	t.Helper()
	wantItem(t, i, api.Item{Kind: kind})
}

func wantNone(t *testing.T, i *Intake) {
	t.Helper()
	if x, ok := i.Next(); ok || !same(x, api.Item{}) {
		t.Fatalf("Next() = %s; want none", show(x, ok))
	}
}

func wantHeld(t *testing.T, i *Intake, want int) {
	t.Helper()
	if got := i.Held(); got != want {
		t.Fatalf("Held() = %d; want %d", got, want)
	}
}

func wantAsked(t *testing.T, i *Intake, n int, want api.Errno) {
	t.Helper()
	if got := i.Body(n); got != want {
		t.Fatalf("Body(%d) = %d; want %d", n, got, want)
	}
}

// The chapter's examples, line by line.
func TestExamples(t *testing.T) {
	for _, most := range []int{0, 65536} {
		if i, err := New(most); i != nil || err != api.ErrIntakeMax {
			t.Errorf("New(%d) = %v, %d", most, i, err)
		}
	}
	i := fresh(t, 4, "ab")
	wantNone(t, i)
	wantHeld(t, i, 2)
	i.Feed(of("c.de"))
	wantLine(t, i, "abc")
	wantNone(t, i)
	wantHeld(t, i, 2)
	i.Feed(of("."))
	wantLine(t, i, "de")
	wantAsked(t, i, 3, api.OK)
	wantAsked(t, i, 1, api.ErrIntakeBody)
	wantNone(t, i)
	i.Feed(of("xyz.q"))
	wantBody(t, i, "xyz")
	wantHeld(t, i, 1)
	wantAsked(t, i, 2, api.OK)
	i.Feed(of("rst"))
	wantKind(t, i, api.ItemEnd)
	wantHeld(t, i, 0)
	wantAsked(t, i, 9, api.OK)
	i.Feed(of("123456789.q"))
	wantHeld(t, i, 1)
	wantKind(t, i, api.ItemBig)
	i.Feed(of("\r"))
	i.Feed(of("z."))
	wantLine(t, i, "q\rz")
	i.Feed(of(as(300)))
	wantHeld(t, i, 300)
	wantAsked(t, i, 4, api.OK)
	wantKind(t, i, api.ItemEnd)
	wantHeld(t, i, 294)
	wantNone(t, i)
	wantHeld(t, i, 0)
	wantAsked(t, i, 0, api.ErrIntakeBody)
	i.Feed(of("\r"))
	wantNone(t, i)
	i.Feed(of("\nb"))
	wantHeld(t, i, 1)
	wantKind(t, i, api.ItemLong)
	wantHeld(t, i, 1)
	wantAsked(t, i, -1, api.ErrIntakeBody)
	wantAsked(t, i, api.MaxNumber+1, api.ErrIntakeBody)
	wantAsked(t, i, 0, api.OK)
	i.Feed(of("."))
	wantKind(t, i, api.ItemEnd)
	wantNone(t, i)
	wantHeld(t, i, 1)

	i = fresh(t, 4, as(222)+".")
	wantLine(t, i, as(222))
	i.Feed(of(as(223) + "."))
	wantKind(t, i, api.ItemLong)
}

// The chapter's errors have their numbers.
func TestErrors(t *testing.T) {
	if api.ErrIntakeMax != 60 || api.ErrIntakeBody != 61 {
		t.Errorf("%d and %d; want 60 and 61", api.ErrIntakeMax, api.ErrIntakeBody)
	}
}

// P6.1: the ends of what New takes, and far beyond them.
func TestNew(t *testing.T) {
	for _, most := range []int{math.MinInt, -65535, -1, 0, 65536, 65537, 1 << 32, 1<<32 + 1, math.MaxInt} {
		if i, err := New(most); i != nil || err != api.ErrIntakeMax {
			t.Errorf("New(%d) = %v, %d; want nil, %d", most, i, err, api.ErrIntakeMax)
		}
	}
	for _, most := range []int{1, 2, 223, 224, 65534, 65535} {
		i := fresh(t, most, "")
		wantHeld(t, i, 0)
		wantNone(t, i)
		wantAsked(t, i, 0, api.OK) // it is at a line
	}
}

// P6.1: two intakes have nothing to do with each other.
func TestNewTwice(t *testing.T) {
	i, j := fresh(t, 4, "one.x"), fresh(t, 4, "")
	wantHeld(t, j, 0)
	wantNone(t, j)
	j.Feed(of("two."))
	wantLine(t, i, "one")
	wantHeld(t, i, 1)
	wantLine(t, j, "two")
	wantHeld(t, j, 0)
}

// P6.2: nothing comes of nothing, however the intake stands.
func TestFeedNothing(t *testing.T) {
	for name, i := range standings(t) {
		want := told(i.Clone())
		for _, b := range [][]byte{nil, {}, make([]byte, 0, 9)} {
			held := i.Held()
			i.Feed(b)
			wantHeld(t, i, held)
		}
		if got := told(i); !slices.EqualFunc(got, want, same) {
			t.Errorf("%s: %v; want %v", name, got, want)
		}
	}
}

// standings has an intake, that keeps bodies of at most 4 bytes, for each way to stand.
func standings(t *testing.T) map[string]*Intake {
	t.Helper()
	m := map[string]*Intake{
		"new":                         fresh(t, 4, ""),
		"at a piece of a line":        fresh(t, 4, "ab"),
		"at a line and more":          fresh(t, 4, "ab.cd.ef"),
		"at a long line, not asked":   fresh(t, 4, as(300)),
		"in a long line":              fresh(t, 4, as(300)),
		"in a long line, behind a CR": fresh(t, 4, as(300)+"\r"),
		"in a long line, ended":       fresh(t, 4, as(300)),
		"at a body":                   fresh(t, 4, "ab"),
		"at a body that is whole":     fresh(t, 4, "ab.cd.ef"),
		"at a body without its end":   fresh(t, 4, "abcdefgh"),
		"at a big body":               fresh(t, 4, "ab"),
		"at a big body, ended":        fresh(t, 4, "abcde.fg.hi"),
		"behind a line":               fresh(t, 4, "ab.cd"),
	}
	for _, name := range []string{"in a long line", "in a long line, behind a CR", "in a long line, ended"} {
		wantNone(t, m[name])
	}
	m["in a long line, ended"].Feed(of("b.c.d"))
	wantAsked(t, m["at a body"], 4, api.OK)
	wantAsked(t, m["at a body that is whole"], 2, api.OK)
	wantAsked(t, m["at a body without its end"], 4, api.OK)
	wantAsked(t, m["at a big body"], 5, api.OK)
	wantAsked(t, m["at a big body, ended"], 5, api.OK)
	wantLine(t, m["behind a line"], "ab")
	return m
}

// told has all items up to the first false.
func told(i *Intake) []api.Item {
	var items []api.Item
	for {
		x, ok := i.Next()
		if !ok {
			return items
		}
		items = append(items, x)
	}
}

// P6.3, P6.9, MaxLine: lines of each length, in one piece.
func TestLineLengths(t *testing.T) {
	for n := range 700 {
		i := fresh(t, 4, as(n)+".b.")
		if n <= 222 {
			wantLine(t, i, as(n))
		} else {
			wantKind(t, i, api.ItemLong)
		}
		wantHeld(t, i, 3)
		wantLine(t, i, "b")
		wantNone(t, i)
	}
}

// P6.3: lines of each length, asked for behind each byte; the 224th one makes a line long.
func TestLineByteByByte(t *testing.T) {
	for _, n := range []int{0, 1, 2, 221, 222, 223, 224, 225, 226, 500} {
		i := fresh(t, 4, "")
		for k, c := range of(as(n) + ".") {
			wantNone(t, i)
			wantAsked(t, i.Clone(), 1, errorAt(k < api.MaxLine))
			i.Feed([]byte{c})
			if k+1 < api.MaxLine {
				wantHeld(t, i, k+1)
			} else if k >= api.MaxLine {
				wantHeld(t, i, 0)
			}
		}
		if n <= 222 {
			wantLine(t, i, as(n))
		} else {
			wantKind(t, i, api.ItemLong)
		}
		wantHeld(t, i, 0)
		wantNone(t, i)
	}
}

func errorAt(line bool) api.Errno {
	if line {
		return api.OK
	}
	return api.ErrIntakeBody
}

// P6.3: only a CR with a LF right behind it ends a line, and the first such one does.
func TestLineEnds(t *testing.T) {
	for _, text := range []string{
		"", "\r", "\n", "\n\r", "\r\r", "\n\n", "a\rb", "a\nb", "a\n\rb", "\r\r\r", " ", "\x00", "\xff\xfe",
		strings.Repeat("\r", 222), strings.Repeat("\n", 222), strings.Repeat("\n", 221) + "\r", strings.Repeat("é", 111),
	} {
		i := fresh(t, 4, "")
		i.Feed([]byte(text))
		wantNone(t, i)
		wantHeld(t, i, len(text))
		i.Feed([]byte("\r\n\r\n"))
		wantLine(t, i, text)
		wantHeld(t, i, 2)
		wantLine(t, i, "")
		wantNone(t, i)
	}
	i := fresh(t, 4, "a..b.\r.\n.")
	for _, text := range []string{"a", "", "b", "\r", "\n"} {
		wantLine(t, i, text)
	}
	wantHeld(t, i, 0)
}

// P6.3: each byte there is, within a line.
func TestLineBytes(t *testing.T) {
	for n := range 256 {
		text := string([]byte{byte(n), 'x', byte(n)})
		i := fresh(t, 4, "")
		i.Feed([]byte(text + "\r\n"))
		wantLine(t, i, text)
		wantHeld(t, i, 0)
	}
}

// P6.3: the CR is the 223rd byte or the 224th one.
func TestLineEndAtTheEdge(t *testing.T) {
	i := fresh(t, 4, as(222)+"\r")
	wantNone(t, i)
	wantHeld(t, i, 223)
	i.Feed([]byte("\n"))
	wantLine(t, i, as(222))

	i = fresh(t, 4, as(222)+"\r")
	i.Feed([]byte("b"))
	wantNone(t, i)
	wantHeld(t, i, 0)
	i.Feed([]byte("\n."))
	wantNone(t, i) // the CR has a b behind it
	i.Feed([]byte("\r\n"))
	wantKind(t, i, api.ItemLong)

	i = fresh(t, 4, as(223)+"\r")
	wantHeld(t, i, 224)
	wantNone(t, i)
	wantHeld(t, i, 0)
	i.Feed([]byte("\nb"))
	wantHeld(t, i, 1)
	wantKind(t, i, api.ItemLong)
	wantHeld(t, i, 1)
	wantNone(t, i)

	i = fresh(t, 4, as(223)+"..")
	wantKind(t, i, api.ItemLong)
	wantLine(t, i, "")
}

// P6.2, P6.3: a long line is let go up to the first CR LF behind its beginning, whatever comes within it.
func TestLongLine(t *testing.T) {
	for _, middle := range []string{"", "b", "\r", "\n", "\n\r", "\r\r", "b\rb\nb", strings.Repeat("\r", 500), strings.Repeat("\n", 500)} {
		i := fresh(t, 4, as(224))
		wantNone(t, i)
		for k := range len(middle) {
			i.Feed([]byte(middle[k : k+1]))
			wantHeld(t, i, 0)
			wantNone(t, i)
		}
		i.Feed([]byte("\r\nc\r\nd"))
		wantHeld(t, i, 4)
		wantAsked(t, i, 0, api.ErrIntakeBody)
		i.Feed([]byte("e"))
		wantHeld(t, i, 5)
		wantKind(t, i, api.ItemLong)
		wantHeld(t, i, 5)
		wantLine(t, i, "c")
		wantNone(t, i)
		wantHeld(t, i, 2)
	}
}

// P6.3: what is held behind a long line's end may be a long line again, or end with a CR.
func TestLongLines(t *testing.T) {
	i := fresh(t, 4, as(250)+"."+as(223)+"."+as(222)+"."+as(224)+"\r")
	wantKind(t, i, api.ItemLong)
	wantKind(t, i, api.ItemLong)
	wantLine(t, i, as(222))
	wantHeld(t, i, 225)
	wantNone(t, i)
	wantHeld(t, i, 0)
	i.Feed(nil)
	wantNone(t, i)
	i.Feed([]byte("\n"))
	wantHeld(t, i, 0)
	wantKind(t, i, api.ItemLong)
	wantNone(t, i)
}

// P6.2: a LF ends a long line only behind a CR of that line, not behind one that was told or let go ahead of it.
func TestLongLineBehindCR(t *testing.T) {
	begins := map[string]func(i *Intake){
		"a body without its end": func(i *Intake) {
			wantAsked(t, i, 1, api.OK)
			i.Feed([]byte("ab\r"))
			wantKind(t, i, api.ItemEnd)
		},
		"a big body": func(i *Intake) {
			wantAsked(t, i, 5, api.OK)
			i.Feed([]byte("abcdef\r"))
			wantKind(t, i, api.ItemBig)
		},
	}
	for name, begin := range begins {
		for _, cut := range []int{0, 1, 2, 224} {
			i := fresh(t, 4, "")
			begin(i)
			text := "\n" + as(223)
			i.Feed([]byte(text[:cut]))
			if cut < 224 {
				wantNone(t, i)
			}
			i.Feed([]byte(text[cut:]))
			wantHeld(t, i, 224)
			wantNone(t, i)
			wantHeld(t, i, 0)
			i.Feed([]byte("\n"))
			wantNone(t, i)
			i.Feed([]byte("\r\n"))
			if x, ok := i.Next(); !ok || x.Kind != api.ItemLong {
				t.Errorf("behind %s, cut at %d: %s", name, cut, show(x, ok))
			}
		}
	}
}

// P6.2: a CR of an earlier long line is none of a later one.
func TestLongLineBehindLongLine(t *testing.T) {
	i := fresh(t, 4, as(224)+"\r")
	wantNone(t, i)
	i.Feed([]byte("\n\n"))
	wantHeld(t, i, 1)
	wantKind(t, i, api.ItemLong)
	i.Feed([]byte(as(223)))
	wantNone(t, i)
	wantHeld(t, i, 0)
	i.Feed([]byte("\n"))
	wantNone(t, i)
	i.Feed([]byte("\r"))
	wantNone(t, i)
	i.Feed([]byte("\r"))
	wantNone(t, i)
	i.Feed([]byte("\n"))
	wantKind(t, i, api.ItemLong)
}

// P6.3, P6.4: bodies of each size up to the most, whatever bytes they have; two bytes CR LF must stand right behind them.
func TestBody(t *testing.T) {
	texts := []string{"", "a", "\r", "\n", "\r\n", "\r\n\r\n", "a\r\nb", "\r\n\r", "\x00\xff", "abcd"}
	for _, text := range texts {
		i := fresh(t, 4, "")
		wantAsked(t, i, len(text), api.OK)
		for k, c := range []byte(text + "\r\n") {
			wantNone(t, i)
			wantHeld(t, i, k)
			i.Feed([]byte{c})
		}
		i.Feed([]byte("x"))
		wantHeld(t, i, len(text)+3)
		wantBody(t, i, text)
		wantHeld(t, i, 1)
		wantNone(t, i)
		wantAsked(t, i, 0, api.OK)
	}
}

// P6.3: of a body without its end n + 2 bytes are told, and none behind them.
func TestBodyWithoutEnd(t *testing.T) {
	for _, ends := range []string{"ab", "\rb", "\n\r", "b\n", "\r\r", "\n\n", "b\r", "\r\x00"} {
		for n := range 5 {
			i := fresh(t, 4, "")
			wantAsked(t, i, n, api.OK)
			i.Feed([]byte(as(n) + ends[:1]))
			wantNone(t, i)
			i.Feed([]byte(ends[1:] + "\nc\r\n"))
			wantKind(t, i, api.ItemEnd)
			wantHeld(t, i, 4)
			wantLine(t, i, "\nc")
			wantHeld(t, i, 0)
		}
	}
}

// P6.3, P6.4, MaxBody: the greatest body, whole and without its end, and the smallest big one.
func TestGreatestBody(t *testing.T) {
	text := strings.Repeat("b", api.MaxBody)
	i := fresh(t, api.MaxBody, "")
	wantAsked(t, i, api.MaxBody, api.OK)
	i.Feed([]byte(text + "\r"))
	wantNone(t, i)
	wantHeld(t, i, api.MaxBody+1) // P6.9
	i.Feed([]byte("\n"))
	wantBody(t, i, text)

	wantAsked(t, i, api.MaxBody, api.OK)
	i.Feed([]byte(text + "b\r\nc"))
	wantKind(t, i, api.ItemEnd)
	wantHeld(t, i, 2)

	wantAsked(t, i, api.MaxBody+1, api.OK)
	wantHeld(t, i, 0)
	i.Feed([]byte(text + "bb"))
	wantHeld(t, i, 1)
	wantKind(t, i, api.ItemBig)
	wantHeld(t, i, 1)
}

// P6.4: a body is big from the first size on that is above what New was given.
func TestMost(t *testing.T) {
	for _, most := range []int{1, 2, 4, 222, 223, 224, 225, 1000} {
		for n := max(0, most-2); n < most+3; n++ {
			i := fresh(t, most, as(n)+".c")
			wantAsked(t, i, n, api.OK)
			if n <= most {
				wantHeld(t, i, n+3)
				wantBody(t, i, as(n))
			} else {
				wantHeld(t, i, 1)
				wantKind(t, i, api.ItemBig)
			}
			wantHeld(t, i, 1)
		}
	}
}

// P6.2 to P6.4: a big body is let go as it comes, up to its n + 2nd byte, whatever its bytes are.
func TestBigBody(t *testing.T) {
	for _, text := range []string{"12345\r\n", "\r\n\r\n\r\n\r", "123456\r", "\r\r\r\r\r\r\r"} {
		i := fresh(t, 4, "")
		wantAsked(t, i, 5, api.OK)
		for _, c := range []byte(text) {
			wantNone(t, i)
			wantAsked(t, i, 0, api.ErrIntakeBody)
			i.Feed([]byte{c})
			wantHeld(t, i, 0)
		}
		wantAsked(t, i, 0, api.ErrIntakeBody)
		i.Feed(of("a.b"))
		wantHeld(t, i, 4)
		wantKind(t, i, api.ItemBig)
		wantHeld(t, i, 4)
		wantLine(t, i, "a")
		wantNone(t, i)
	}
}

// P6.4: what is held when a big body is asked for is let go up to its end, and no more.
func TestBigBodyOfHeldBytes(t *testing.T) {
	text := "line." + as(20) + "."
	for n := 5; n < 40; n++ {
		i := fresh(t, 4, text)
		wantLine(t, i, "line")
		wantAsked(t, i, n, api.OK)
		left := max(0, 22-(n+2))
		wantHeld(t, i, left)
		if n <= 20 {
			wantKind(t, i, api.ItemBig)
			wantHeld(t, i, left)
			continue
		}
		wantNone(t, i)
		i.Feed([]byte(strings.Repeat("c", n-20) + "d"))
		wantHeld(t, i, 1)
		wantKind(t, i, api.ItemBig)
	}
}

// P6.4, MaxNumber: the sizes that may be, and those that may not.
func TestBodySizes(t *testing.T) {
	for _, n := range []int{math.MinInt, -api.MaxNumber, -1, api.MaxNumber + 1, api.MaxNumber + 2, math.MaxInt} {
		i := fresh(t, 4, "a.b.")
		wantAsked(t, i, n, api.ErrIntakeBody)
		wantHeld(t, i, 6)
		wantLine(t, i, "a")
		wantAsked(t, i, n, api.ErrIntakeBody)
		wantLine(t, i, "b")
		wantNone(t, i)
	}
	i := fresh(t, 4, "a.b.")
	wantAsked(t, i, api.MaxNumber, api.OK)
	wantHeld(t, i, 0)
	chunk := bytes.Repeat([]byte("\r\n"), 1<<19)
	for range 20 {
		i.Feed(chunk)
		wantHeld(t, i, 0)
		wantNone(t, i)
	}
	wantAsked(t, i, 0, api.ErrIntakeBody)
}

// P6.4, R2: not at a line, each size is refused, and nothing has changed.
func TestBodyRefused(t *testing.T) {
	for name, i := range standings(t) {
		if strings.HasPrefix(name, "new") || strings.HasPrefix(name, "at a piece") || strings.HasPrefix(name, "at a l") || strings.HasPrefix(name, "behind") {
			for _, n := range []int{0, 4, 5, api.MaxNumber} {
				wantAsked(t, i.Clone(), n, api.OK)
			}
			continue
		}
		c := i.Clone()
		for _, n := range []int{-1, 0, 1, 4, 5, api.MaxNumber, api.MaxNumber + 1} {
			if got := i.Body(n); got != api.ErrIntakeBody {
				t.Errorf("%s: Body(%d) = %d", name, n, got)
			}
		}
		wantAlike(t, name, i, c)
	}
}

// wantAlike lets both take in the same, and holds what they tell against each other.
func wantAlike(t *testing.T, name string, i, c *Intake) {
	t.Helper()
	for _, text := range []string{"", "\n", "\r", "\n", "xy.z", as(230), "..", "last."} {
		i.Feed(of(text))
		c.Feed(of(text))
		if got, want := told(i), told(c); !slices.EqualFunc(got, want, same) || i.Held() != c.Held() {
			t.Errorf("%s: behind %q %v, %d; want %v, %d", name, text, got, i.Held(), want, c.Held())
		}
	}
}

// P6.4: what is held belongs to the body, and be it a long line; a Next in between makes it one.
func TestBodyOfHeldBytes(t *testing.T) {
	i := fresh(t, 300, "put."+as(300)+".c")
	wantLine(t, i, "put")
	wantAsked(t, i, 300, api.OK)
	wantBody(t, i, as(300))
	wantHeld(t, i, 1)

	i = fresh(t, 300, "put."+as(300))
	wantLine(t, i, "put")
	wantNone(t, i)
	wantAsked(t, i, 300, api.ErrIntakeBody)

	i = fresh(t, 300, "put."+as(223)) // not long yet
	wantLine(t, i, "put")
	wantNone(t, i)
	wantAsked(t, i, 223, api.OK)
	i.Feed(of("."))
	wantBody(t, i, as(223))

	i = fresh(t, 4, "a.b.c.") // lines too
	wantAsked(t, i, 4, api.OK)
	wantBody(t, i, "a\r\nb")
	wantLine(t, i, "c")
}

// P6.5: asking changes nothing.
func TestHeldChangesNothing(t *testing.T) {
	for name, i := range standings(t) {
		c := i.Clone()
		held := i.Held()
		for range 3 {
			wantHeld(t, i, held)
		}
		wantAlike(t, name, i, c)
	}
}

// P6.6, R7: however an intake stands, its clone goes on as it would, and each its own way.
func TestClone(t *testing.T) {
	for name, i := range standings(t) {
		wantHeld(t, i.Clone(), i.Held())
		c := i.Clone()
		d := c.Clone()
		c.Feed([]byte(strings.Repeat("z\r\n", 300)))
		told(c)
		c.Body(3)
		wantAlike(t, name, i, d)
	}
	i := fresh(t, 2, "ab.")
	c := i.Clone()
	wantLine(t, c, "ab")
	wantAsked(t, c, 3, api.OK) // what New was given is the clone's too
	c.Feed(of("xyz."))
	wantKind(t, c, api.ItemBig)
	wantAsked(t, c, 2, api.OK)
	c.Feed(of("xy."))
	wantBody(t, c, "xy")
	wantHeld(t, c, 0)
	wantHeld(t, i, 4)
	wantLine(t, i, "ab")
}

// P6.6, R7: what comes to one of two is not laid into the memory of the other.
func TestCloneMemory(t *testing.T) {
	i := fresh(t, 4, "a.b.c")
	wantLine(t, i, "a")
	c := i.Clone()
	i.Feed(of("iii."))
	c.Feed(of("jjj."))
	d := c.Clone()
	d.Feed(of("ddd."))
	c.Feed(of("eee."))
	for _, p := range []struct {
		i     *Intake
		lines []string
	}{{i, []string{"b", "ciii"}}, {c, []string{"b", "cjjj", "eee"}}, {d, []string{"b", "cjjj", "ddd"}}} {
		for _, line := range p.lines {
			wantLine(t, p.i, line)
		}
		wantHeld(t, p.i, 0)
	}
}

// R4: what is handed in is neither changed nor kept, nor the room behind its end.
func TestFeedKeepsNothing(t *testing.T) {
	room := []byte("ab\r\ncd\r\nroom behind it")
	piece := room[:8]
	i := fresh(t, 4, "")
	i.Feed(piece)
	i.Feed([]byte("ef"))
	if string(room) != "ab\r\ncd\r\nroom behind it" {
		t.Fatalf("it is %q now", room)
	}
	for k := range room {
		room[k] = 'z'
	}
	wantLine(t, i, "ab")
	wantAsked(t, i, 2, api.OK)
	wantBody(t, i, "cd")
	i.Feed([]byte("\r\n"))
	wantLine(t, i, "ef")
	if string(room) != strings.Repeat("z", len(room)) {
		t.Fatalf("it is %q now", room)
	}
}

// P6.6, R4: what is told is new memory, its spare room too.
func TestToldIsNew(t *testing.T) {
	i := fresh(t, 4, "")
	i.Feed([]byte("one\r\ntwo\r\n\r\nline\r\nrest"))
	c := i.Clone()
	var bodies [][]byte
	for _, text := range []string{"one", "two", ""} {
		wantAsked(t, i, len(text), api.OK)
		x, ok := i.Next()
		if !ok || x.Kind != api.ItemBody || string(x.Body) != text {
			t.Fatal(show(x, ok))
		}
		for _, b := range bodies {
			if strings.Trim(string(b[:cap(b)]), "z") != "" {
				t.Fatalf("an earlier answer shows %q", b[:cap(b)])
			}
		}
		_ = append(x.Body, "zzzzzzzz"...)
		for k := range x.Body[:cap(x.Body)] {
			x.Body[:cap(x.Body)][k] = 'z'
		}
		bodies = append(bodies, x.Body)
	}
	wantLine(t, i, "line")
	wantHeld(t, i, 4)
	i.Feed([]byte("\r\n"))
	wantLine(t, i, "rest")
	wantAsked(t, c, 3, api.OK)
	wantBody(t, c, "one")
	wantLine(t, c, "two")
}

// R4: a line that was told stays as it is, whatever comes later.
func TestLinesStay(t *testing.T) {
	i := fresh(t, 4, "")
	var lines []string
	for n := range 500 {
		i.Feed([]byte(strings.Repeat(string(rune('a'+n%26)), n%223) + "\r\n"))
		x, _ := i.Next()
		lines = append(lines, x.Text)
	}
	for n, line := range lines {
		if want := strings.Repeat(string(rune('a'+n%26)), n%223); line != want {
			t.Fatalf("line %d is %q now; want %q", n, line, want)
		}
	}
}

// plain is an intake that keeps all bytes of what was not told, and looks through them anew each time.
type plain struct {
	most    int
	bytes   string // from the first byte on that is of no item that was told
	body    int    // -1: none was asked for
	long    bool
	came    int
	counted int // the bytes of all items that were told
}

// loose tells how many of the bytes are let go; ended: all that have to be.
func (p *plain) loose() (n int, ended bool) {
	switch {
	case p.body > p.most:
		return min(p.body+2, len(p.bytes)), len(p.bytes) >= p.body+2
	case p.long:
		if at := strings.Index(p.bytes, "\r\n"); at >= 0 {
			return at + 2, true
		}
		return len(p.bytes), false
	}
	return 0, false
}

func (p *plain) held() int {
	n, _ := p.loose()
	return len(p.bytes) - n
}

func (p *plain) feed(b []byte) {
	p.bytes += string(b)
	p.came += len(b)
}

func (p *plain) ask(n int) api.Errno {
	if n < 0 || n > 4294967295 || p.long || p.body >= 0 {
		return api.ErrIntakeBody
	}
	p.body = n
	return api.OK
}

func (p *plain) tell(n int, x api.Item) (api.Item, bool) {
	p.bytes, p.body, p.long = p.bytes[n:], -1, false
	p.counted += n
	return x, true
}

func (p *plain) next() (api.Item, bool) {
	if p.body < 0 && !p.long {
		at := strings.Index(p.bytes, "\r\n")
		if 0 <= at && at <= 222 {
			return p.tell(at+2, api.Item{Kind: api.ItemLine, Text: p.bytes[:at]})
		}
		p.long = len(p.bytes) >= 224
	}
	n, ended := p.loose()
	switch {
	case p.long && ended:
		return p.tell(n, api.Item{Kind: api.ItemLong})
	case p.body > p.most && ended:
		return p.tell(n, api.Item{Kind: api.ItemBig})
	case p.body < 0 || p.body > p.most || len(p.bytes) < p.body+2:
		return api.Item{}, false
	case p.bytes[p.body:p.body+2] == "\r\n":
		return p.tell(p.body+2, api.Item{Kind: api.ItemBody, Body: []byte(p.bytes[:p.body])})
	}
	return p.tell(p.body+2, api.Item{Kind: api.ItemEnd})
}

// piece makes bytes that often hold ends, halves of ends, and what is about as long as a line may be.
func piece(dice *rand.Rand) []byte {
	parts := []string{"", "a", "b", "\r", "\n", "\r\n", "\n\r", "put\r\n", as(5), as(100), as(221), as(222), as(223), as(224), as(600)}
	var b []byte
	for range dice.Intn(4) {
		b = append(b, parts[dice.Intn(len(parts))]...)
	}
	return b
}

// P6.2 to P6.9: long random plays, with clones, against the plain one.
func TestAgainstPlain(t *testing.T) {
	sizes := []int{-1, 0, 1, 2, 3, 4, 5, 9, 222, 224, 300, 301, api.MaxNumber + 1}
	for seed := range int64(400) {
		dice := rand.New(rand.NewSource(seed))
		most := []int{1, 4, 300}[seed%3]
		intakes, plains := []*Intake{fresh(t, most, "")}, []*plain{{most: most, body: -1}}
		for range 300 {
			k := dice.Intn(len(intakes))
			i, p := intakes[k], plains[k]
			switch n := dice.Intn(30); {
			case n == 0 && len(intakes) < 4:
				q := *p
				intakes, plains = append(intakes, i.Clone()), append(plains, &q)
			case n < 14:
				b := piece(dice)
				i.Feed(b)
				p.feed(b)
			case n < 18:
				size := sizes[dice.Intn(len(sizes))]
				wantAsked(t, i, size, p.ask(size))
			default:
				playNext(t, i, p)
			}
			for k := range intakes {
				wantHeld(t, intakes[k], plains[k].held())
			}
		}
	}
}

func playNext(t *testing.T, i *Intake, p *plain) {
	t.Helper()
	x, ok := i.Next()
	want, there := p.next()
	if ok != there || !same(x, want) {
		t.Fatalf("Next() = %s; want %s", show(x, ok), show(want, there))
	}
	if len(x.Text) > 222 || strings.Contains(x.Text, "\r\n") {
		t.Fatalf("the line %q", x.Text)
	}
	most := 223
	if 0 <= p.body && p.body <= p.most {
		most = p.body + 1
	}
	if !ok && i.Held() > most {
		t.Fatalf("no item, and %d bytes are held; want %d at most", i.Held(), most)
	}
	if loose, _ := p.loose(); p.came != p.counted+loose+i.Held() {
		t.Fatalf("%d bytes came; %d are told, %d let go, %d held", p.came, p.counted, loose, i.Held())
	}
}

// P6.8: the bytes of what is told, of what is held, and of long lines whose length is known, are those that came.
func TestBytesAccountedFor(t *testing.T) {
	i := fresh(t, 4, "put."+"1234."+"big."+"12345."+as(400)+".cut."+"12345"+"\r.tail")
	came, counted := i.Held(), 0
	sizes := map[string]int{"put": 4, "big": 5, "cut": 4}
	asked := 0
	var kinds []int
	for x, ok := i.Next(); ok; x, ok = i.Next() {
		kinds = append(kinds, x.Kind)
		switch x.Kind {
		case api.ItemLine:
			counted += len(x.Text) + 2
			if n, is := sizes[x.Text]; is {
				wantAsked(t, i, n, api.OK)
				asked = n
			}
		case api.ItemLong:
			counted += 402
		default:
			counted += asked + 2
		}
	}
	if want := []int{1, 3, 1, 4, 2, 1, 5, 1}; !slices.Equal(kinds, want) {
		t.Errorf("kinds %v; want %v", kinds, want)
	}
	if came != counted+i.Held() || i.Held() != 4 {
		t.Errorf("%d came; %d are told, %d held", came, counted, i.Held())
	}
}

// read asks for a body behind each line that says put and a size, and tells all items.
func read(t *testing.T, i *Intake) []api.Item {
	t.Helper()
	var items []api.Item
	for x, ok := i.Next(); ok; x, ok = i.Next() {
		items = append(items, x)
		var n int
		if _, err := fmt.Sscanf(x.Text, "put %d", &n); err == nil && x.Kind == api.ItemLine {
			wantAsked(t, i, n, api.OK)
		}
	}
	return items
}

// P6.7: one stream, cut at each place and at one more behind it (all near ones, fewer of the far ones), with and without a Next at the cuts.
func TestCuts(t *testing.T) {
	stream := of("put 3.abc.x\r.put 3.abcd.put 9.123456789." + as(222) + "." + as(223) + ".y\r\n\n." + "put 9.12345678\r\r\n\n" + as(225) + "\r\r\nz")
	whole := fresh(t, 4, "")
	whole.Feed(stream)
	want := read(t, whole)
	if len(want) < 12 {
		t.Fatalf("the stream has %d items", len(want))
	}
	for first := range len(stream) {
		for second := first; second < len(stream); second += 1 + (second-first)/7 {
			i := fresh(t, 4, "")
			i.Feed(stream[:first])
			got := read(t, i)
			i.Feed(stream[first:second])
			got = append(got, read(t, i)...)
			i.Feed(stream[second:])
			got = append(got, read(t, i)...)
			if !slices.EqualFunc(got, want, same) || i.Held() != whole.Held() {
				t.Fatalf("cut at %d and %d: %v; want %v", first, second, got, want)
			}
			j := fresh(t, 4, "")
			j.Feed(stream[:first])
			j.Feed(stream[first:second])
			j.Feed(stream[second:])
			wantHeld(t, j, len(stream))
			if got := read(t, j); !slices.EqualFunc(got, want, same) {
				t.Fatalf("cut at %d and %d, asked at the end: %v; want %v", first, second, got, want)
			}
		}
	}
}

// P6.7: random streams, cut at random.
func TestRandomCuts(t *testing.T) {
	for seed := range int64(300) {
		dice := rand.New(rand.NewSource(seed))
		var stream []byte
		for range 40 {
			stream = append(stream, piece(dice)...)
			stream = fmt.Appendf(stream, "put %d\r\n", dice.Intn(12))
			stream = append(stream, "0123456789\r\n"[dice.Intn(12):]...)
		}
		whole, cut := fresh(t, 6, ""), fresh(t, 6, "")
		whole.Feed(stream)
		want := read(t, whole)
		var got []api.Item
		for rest := stream; len(rest) > 0; {
			n := min(len(rest), 1+dice.Intn(50))
			cut.Feed(rest[:n])
			rest = rest[n:]
			if dice.Intn(3) > 0 {
				got = append(got, read(t, cut)...)
			}
		}
		got = append(got, read(t, cut)...)
		if !slices.EqualFunc(got, want, same) || cut.Held() != whole.Held() {
			t.Fatalf("seed %d: %d items, %d held; want %d, %d", seed, len(got), cut.Held(), len(want), whole.Held())
		}
	}
}

// P6.7: in a long line and at a big body, how what comes is cut is not seen either.
func TestCutsOfWhatIsLetGo(t *testing.T) {
	for name, i := range standings(t) {
		for _, text := range []string{"\n", "\r\n", "\n\r\n", "\r\r\n", "b\r\n\r\n", "\r", "\rb\n\r\nc"} {
			for cut := range len(text) + 1 {
				one, two := i.Clone(), i.Clone()
				one.Feed([]byte(text))
				two.Feed([]byte(text[:cut]))
				two.Feed([]byte(text[cut:]))
				wantHeld(t, two, one.Held())
				wantAlike(t, name, two, one)
			}
		}
	}
}

// A great many lines that are held, a long line and a body byte by byte: the time grows as the bytes do.
func TestGreatIntake(t *testing.T) {
	begin := time.Now()
	const lines = 1 << 20
	i := fresh(t, api.MaxBody, "")
	i.Feed(bytes.Repeat([]byte("ab\r\n"), lines))
	for range lines {
		if x, ok := i.Next(); !ok || x.Text != "ab" {
			t.Fatal(show(x, ok))
		}
	}
	wantHeld(t, i, 0)
	for range 1 << 20 {
		i.Feed([]byte("x"))
		wantNone(t, i)
	}
	i.Feed([]byte("\r\n"))
	wantKind(t, i, api.ItemLong)
	for range 20 {
		wantAsked(t, i, api.MaxBody, api.OK)
		for range api.MaxBody + 2 {
			wantNone(t, i)
			i.Feed([]byte("x"))
		}
		wantKind(t, i, api.ItemEnd)
	}
	if took := time.Since(begin); took > time.Minute {
		t.Errorf("it took %v", took)
	}
}

// What was told is not kept: of a great piece that is told but for its last byte, little memory is left.
func TestToldIsNotKept(t *testing.T) {
	i := fresh(t, 4, "")
	i.Feed(append(bytes.Repeat([]byte("ab\r\n"), 1<<16), 'x'))
	for range 1 << 16 {
		wantLine(t, i, "ab")
	}
	wantHeld(t, i, 1)
	if cap(i.came) > 1024 {
		t.Errorf("%d bytes are kept for one", cap(i.came))
	}
}
