package answers

import (
	"bytes"
	"fmt"
	"math"
	"math/big"
	"math/rand"
	"regexp"
	"runtime"
	"slices"
	"strconv"
	"strings"
	"testing"
	"time"
	"unsafe"

	"stint/api"
)

// The chapter's table: of each kind the word, and what stands behind it.
var table = map[int][2]string{
	1:  {"INSERTED", "Id"},
	2:  {"USING", "Tube"},
	3:  {"RESERVED", "Id Body"},
	4:  {"DEADLINE_SOON", ""},
	5:  {"TIMED_OUT", ""},
	6:  {"DELETED", ""},
	7:  {"RELEASED", ""},
	8:  {"BURIED", ""},
	9:  {"TOUCHED", ""},
	10: {"WATCHING", "Number"},
	11: {"NOT_IGNORED", ""},
	12: {"FOUND", "Id Body"},
	13: {"KICKED", "Number"},
	14: {"KICKED", ""},
	15: {"PAUSED", ""},
	16: {"OK", "Data"},
	17: {"NOT_FOUND", ""},
	18: {"OUT_OF_MEMORY", ""},
	19: {"BAD_FORMAT", ""},
	20: {"UNKNOWN_COMMAND", ""},
	21: {"EXPECTED_CRLF", ""},
	22: {"JOB_TOO_BIG", ""},
	23: {"DRAINING", ""},
}

const (
	maxId     = 1099511627776
	maxNumber = 4294967295
	maxBody   = 65535
)

// placesOf tells what the table has behind a kind's word.
func placesOf(kind int) []string { return strings.Fields(table[kind][1]) }

func has(kind int, place string) bool { return slices.Contains(placesOf(kind), place) }

func hasBody(kind int) bool { return has(kind, "Body") || has(kind, "Data") }

// sample is a reply of a kind, each of whose fields is not zero.
func sample(kind int) api.Reply {
	r := api.Reply{Kind: kind}
	if has(kind, "Id") {
		r.Id = 70
	}
	if has(kind, "Number") {
		r.Number = 105
	}
	if has(kind, "Tube") {
		r.Tube = "mail-1"
	}
	if hasBody(kind) {
		r.Body = []byte("a\r\nb")
	}
	return r
}

// written is a reply's bytes by the table.
func written(r api.Reply) string {
	text := table[r.Kind][0]
	for _, place := range placesOf(r.Kind) {
		switch place {
		case "Id":
			text += fmt.Sprintf(" %d", r.Id)
		case "Number":
			text += fmt.Sprintf(" %d", r.Number)
		case "Tube":
			text += " " + r.Tube
		default:
			text += fmt.Sprintf(" %d", len(r.Body))
		}
	}
	text += "\r\n"
	if hasBody(r.Kind) {
		text += string(r.Body) + "\r\n"
	}
	return text
}

// of is a text in which each | stands for CR LF.
func of(text string) []byte { return []byte(strings.ReplaceAll(text, "|", "\r\n")) }

// same holds two replies against each other; a nil body is an empty one.
func same(a, b api.Reply) bool {
	return a.Kind == b.Kind && a.Id == b.Id && a.Number == b.Number && a.Tube == b.Tube && bytes.Equal(a.Body, b.Body)
}

func show(r api.Reply) string {
	return fmt.Sprintf("{%d, Id %d, Number %d, Tube %.30q of %d, Body %.30q of %d}", r.Kind, r.Id, r.Number, r.Tube, len(r.Tube), r.Body, len(r.Body))
}

// wantRight: Check takes the reply, and Put writes it so.
func wantRight(t *testing.T, r api.Reply, want string) {
	t.Helper()
	if err := Check(r); err != api.OK {
		t.Errorf("Check(%s) = %d", show(r), err)
	}
	if b, err := Put(r); string(b) != want || err != api.OK {
		t.Errorf("Put(%s) = %.60q of %d, %d; want %.60q of %d", show(r), b, len(b), err, want, len(want))
	}
}

// wantRefused: Check and Put have this error.
func wantRefused(t *testing.T, r api.Reply, want api.Errno) {
	t.Helper()
	if err := Check(r); err != want {
		t.Errorf("Check(%s) = %d; want %d", show(r), err, want)
	}
	if b, err := Put(r); len(b) != 0 || err != want {
		t.Errorf("Put(%s) = %.60q, %d; want %d", show(r), b, err, want)
	}
}

func fed(text string) *Reader {
	r := New()
	r.Feed(of(text))
	return r
}

func wantTold(t *testing.T, r *Reader, want api.Reply) {
	t.Helper()
	if x, ok, err := r.Next(); !same(x, want) || !ok || err != api.OK {
		t.Fatalf("Next() = %s, %v, %d; want %s", show(x), ok, err, show(want))
	}
}

// wantNone: there is no reply, and that is so of this error.
func wantNone(t *testing.T, r *Reader, want api.Errno) {
	t.Helper()
	if x, ok, err := r.Next(); !same(x, api.Reply{}) || ok || err != want {
		t.Fatalf("Next() = %s, %v, %d; want none, %d", show(x), ok, err, want)
	}
}

func wantHeld(t *testing.T, r *Reader, want int) {
	t.Helper()
	if n := r.Held(); n != want {
		t.Fatalf("Held() = %d; want %d", n, want)
	}
}

// The chapter's examples, line by line.
func TestExamples(t *testing.T) {
	wantRight(t, api.Reply{Kind: api.RepInserted, Id: 7}, "INSERTED 7\r\n")
	wantRight(t, api.Reply{Kind: api.RepReserved, Id: 7, Body: []byte("ab")}, "RESERVED 7 2\r\nab\r\n")
	wantRight(t, api.Reply{Kind: api.RepData}, "OK 0\r\n\r\n")
	wantRight(t, api.Reply{Kind: api.RepKicked}, "KICKED 0\r\n")
	wantRight(t, api.Reply{Kind: api.RepKickedJob}, "KICKED\r\n")
	wantRefused(t, api.Reply{Kind: 24}, api.ErrAnswerKind)
	wantRefused(t, api.Reply{Kind: api.RepInserted}, api.ErrAnswerField)
	wantRefused(t, api.Reply{Kind: api.RepSoon, Id: 1}, api.ErrAnswerField)
	wantRefused(t, api.Reply{Kind: api.RepUsing, Tube: "-a"}, api.ErrAnswerField)

	r := New()
	wantNone(t, r, api.OK)
	r.Feed(of("KICKED 1"))
	wantNone(t, r, api.OK)
	wantHeld(t, r, 8)
	r.Feed(of("2|FOUND 3 1|\r"))
	wantTold(t, r, api.Reply{Kind: api.RepKicked, Number: 12})
	wantNone(t, r, api.OK)
	wantHeld(t, r, 12)
	r.Feed(of("|KIXmore"))
	wantTold(t, r, api.Reply{Kind: api.RepFound, Id: 3, Body: []byte("\r")})
	wantNone(t, r, api.ErrAnswerForm)
	wantNone(t, r, api.ErrAnswerForm)
	wantHeld(t, r, 3)

	wantWrongAt(t, "INSERTED 0", 9)
	wantWrongAt(t, "RESERVED 1 65536", 15)
	wantWrongAt(t, "KICKED0", 6)
}

// The numbers of the errors, the limits and the kinds.
func TestNumbers(t *testing.T) {
	if api.ErrAnswerKind != 80 || api.ErrAnswerField != 81 || api.ErrAnswerForm != 82 {
		t.Error("the errors have other numbers")
	}
	if api.MaxId != maxId || api.MaxNumber != maxNumber || api.MaxBody != maxBody || api.MaxName != 200 {
		t.Error("the limits are others")
	}
	kinds := []int{
		api.RepInserted, api.RepUsing, api.RepReserved, api.RepSoon, api.RepTimedOut, api.RepDeleted, api.RepReleased, api.RepBuried,
		api.RepTouched, api.RepWatching, api.RepNotIgnored, api.RepFound, api.RepKicked, api.RepKickedJob, api.RepPaused, api.RepData,
		api.RepNotFound, api.RepNoMemory, api.RepBadFormat, api.RepUnknown, api.RepExpectedEnd, api.RepTooBig, api.RepDraining,
	}
	for i, kind := range kinds {
		if kind != i+1 {
			t.Errorf("kind %d has the number %d", i+1, kind)
		}
	}
	if len(kinds) != api.Replies || len(table) != api.Replies {
		t.Errorf("%d kinds, %d of the table; want %d", len(kinds), len(table), api.Replies)
	}
}

// P8.1, P8.2: each kind with its fields is taken, and written by its form.
func TestEachKind(t *testing.T) {
	for kind := range table {
		r := sample(kind)
		wantRight(t, r, written(r))
	}
	for want, r := range map[string]api.Reply{
		"INSERTED 70\r\n":                sample(1),
		"USING mail-1\r\n":               sample(2),
		"RESERVED 70 4\r\na\r\nb\r\n":    sample(3),
		"DEADLINE_SOON\r\n":              sample(4),
		"WATCHING 105\r\n":               sample(10),
		"FOUND 70 4\r\na\r\nb\r\n":       sample(12),
		"KICKED 105\r\n":                 sample(13),
		"OK 4\r\na\r\nb\r\n":             sample(16),
		"UNKNOWN_COMMAND\r\n":            sample(20),
		"FOUND 1099511627776 0\r\n\r\n":  {Kind: 12, Id: maxId},
		"WATCHING 4294967295\r\n":        {Kind: 10, Number: maxNumber},
		"RESERVED 1 2\r\n\r\n\r\n":       {Kind: 3, Id: 1, Body: []byte("\r\n")},
		"OK 12\r\nINSERTED 1\r\n\r\n":    {Kind: 16, Body: []byte("INSERTED 1\r\n")},
		"OK 3\r\n\x00\xff\x80\r\n":       {Kind: 16, Body: []byte{0, 255, 128}},
		"USING a+/;.$_()Z09-\r\n":        {Kind: 2, Tube: "a+/;.$_()Z09-"},
		"INSERTED 100\r\n":               {Kind: 1, Id: 100},
		"RESERVED 4294967296 1\r\n \r\n": {Kind: 3, Id: maxNumber + 1, Body: []byte(" ")},
	} {
		wantRight(t, r, want)
	}
}

// P8.1, P8.2: a kind that is none has its own error, whatever the fields are.
func TestNoKind(t *testing.T) {
	for _, kind := range []int{math.MinInt, -23, -1, 0, 24, 25, 26, 255, 256, 257, 1 << 32, 1<<32 + 1, math.MaxInt} {
		wantRefused(t, api.Reply{Kind: kind}, api.ErrAnswerKind)
		wantRefused(t, api.Reply{Kind: kind, Id: 1}, api.ErrAnswerKind)
		wantRefused(t, api.Reply{Kind: kind, Id: -1, Number: -1, Tube: "-", Body: make([]byte, maxBody+1)}, api.ErrAnswerKind)
	}
}

// P8.1, P8.2: an Id is 1 to MaxId, and 0 of a kind that has none.
func TestIds(t *testing.T) {
	for kind := range table {
		for _, id := range []int{math.MinInt, -maxId, -1, 0, 1, 2, 9, 10, maxNumber + 1, maxId - 1, maxId, maxId + 1, 1<<62 - 1, math.MaxInt} {
			r := sample(kind)
			r.Id = id
			if has(kind, "Id") && id >= 1 && id <= maxId || !has(kind, "Id") && id == 0 {
				wantRight(t, r, written(r))
			} else {
				wantRefused(t, r, api.ErrAnswerField)
			}
		}
	}
}

// P8.1, P8.2: a Number is 0 to MaxNumber, and 0 of a kind that has none.
func TestNumbersOfReplies(t *testing.T) {
	for kind := range table {
		for _, n := range []int{math.MinInt, -maxNumber, -1, 0, 1, 2, 9, 10, maxBody + 1, maxNumber - 1, maxNumber, maxNumber + 1, maxId, math.MaxInt} {
			r := sample(kind)
			r.Number = n
			if n == 0 || has(kind, "Number") && n > 0 && n <= maxNumber {
				wantRight(t, r, written(r))
			} else {
				wantRefused(t, r, api.ErrAnswerField)
			}
		}
	}
}

// P8.1, P8.2: a Tube is a name, and empty of a kind that has none.
func TestTubes(t *testing.T) {
	tubes := []string{"", "a", "default", "-", "-a", "a-", "a b", " a", "a ", "a\r\n", "\r\n", "a\x00", "é", "a,b", "a+/;.$_()Z09-", strings.Repeat("a", 199), strings.Repeat("a", 200), strings.Repeat("a", 201), strings.Repeat("a", 100000)}
	for kind := range table {
		for _, tube := range tubes {
			r := sample(kind)
			r.Tube = tube
			if has(kind, "Tube") && isName(tube) || !has(kind, "Tube") && tube == "" {
				wantRight(t, r, written(r))
			} else {
				wantRefused(t, r, api.ErrAnswerField)
			}
		}
	}
}

// P8.1, P8.2, R3: a Body has at most MaxBody bytes, of RepData more, and none of a kind that has no Body; nil or empty is the same.
func TestBodies(t *testing.T) {
	for kind := range table {
		for _, size := range []int{0, 1, 9, 10, 99, 100, 101, maxBody - 1, maxBody, maxBody + 1, 1 << 20} {
			r := sample(kind)
			r.Body = bytes.Repeat([]byte("x"), size)
			if size == 0 || has(kind, "Data") || has(kind, "Body") && size <= maxBody {
				wantRight(t, r, written(r))
			} else {
				wantRefused(t, r, api.ErrAnswerField)
			}
		}
		for _, none := range [][]byte{nil, {}, make([]byte, 0, 10)} {
			r := sample(kind)
			r.Body = none
			wantRight(t, r, written(r))
		}
	}
}

// P8.2: bodies are any bytes.
func TestBodyBytes(t *testing.T) {
	for _, kind := range []int{3, 12, 16} {
		for i := range 256 {
			r := sample(kind)
			r.Body = []byte{byte(i), byte(255 - i)}
			wantRight(t, r, written(r))
			read := New()
			read.Feed([]byte(written(r)))
			wantTold(t, read, r)
			wantHeld(t, read, 0)
		}
	}
}

// P8.3: a reader to which nothing came has nothing to tell; and two are not one.
func TestNew(t *testing.T) {
	r := New()
	if r == nil {
		t.Fatal("no reader")
	}
	for range 3 {
		wantNone(t, r, api.OK)
		wantHeld(t, r, 0)
		r.Feed(nil)
		r.Feed([]byte{})
	}
	other := New()
	r.Feed(of("DELETED|x"))
	wantNone(t, other, api.OK)
	wantHeld(t, other, 0)
}

// P8.3: each kind is told with its last byte, and not a byte sooner.
func TestNextByteByByte(t *testing.T) {
	for kind := range table {
		r := New()
		for range 3 {
			text := written(sample(kind))
			for i := range len(text) {
				wantNone(t, r, api.OK)
				wantHeld(t, r, i)
				r.Feed([]byte{text[i]})
			}
			wantHeld(t, r, len(text))
			wantTold(t, r, sample(kind))
			wantHeld(t, r, 0)
		}
		wantNone(t, r, api.OK)
	}
}

// P8.3: replies that came in one piece are told one behind the other.
func TestNextInOrder(t *testing.T) {
	text := ""
	for kind := 1; kind <= 23; kind++ {
		text += written(sample(kind))
	}
	r := New()
	r.Feed([]byte(text + text))
	held := 2 * len(text)
	for range 2 {
		for kind := 1; kind <= 23; kind++ {
			wantHeld(t, r, held)
			wantTold(t, r, sample(kind))
			held -= len(written(sample(kind)))
		}
	}
	wantHeld(t, r, 0)
	wantNone(t, r, api.OK)
}

// P8.3, P8.4: between two replies stands nothing.
func TestNothingBetween(t *testing.T) {
	for _, between := range []string{" ", "|", "\r", "\n", "\x00", "0", "a"} {
		r := fed("DELETED|" + between + "DELETED|")
		wantHeld(t, r, 10)
		wantTold(t, r, sample(6))
		wantNone(t, r, api.ErrAnswerForm)
		wantHeld(t, r, 1)
	}
}

// wantWrongAt: of a text that is fed byte by byte the byte at this place is wrong, and none ahead of it.
func wantWrongAt(t *testing.T, text string, at int) {
	t.Helper()
	r := New()
	b := of(text)
	for i := range at {
		r.Feed(b[i : i+1])
		if x, ok, err := r.Next(); ok || err != api.OK || !same(x, api.Reply{}) {
			t.Fatalf("%q: behind %d bytes Next() = %s, %v, %d", text, i+1, show(x), ok, err)
		}
		wantHeld(t, r, i+1)
	}
	for i := at; i < len(b); i++ {
		r.Feed(b[i : i+1])
		if x, ok, err := r.Next(); ok || err != api.ErrAnswerForm || !same(x, api.Reply{}) {
			t.Fatalf("%q: behind %d bytes Next() = %s, %v, %d; want %d", text, i+1, show(x), ok, err, api.ErrAnswerForm)
		}
		wantHeld(t, r, at+1)
	}
	whole := New()
	whole.Feed(b)
	wantHeld(t, whole, at+1)
	wantNone(t, whole, api.ErrAnswerForm)
	wantHeld(t, whole, at+1)
}

// P8.4: the first wrong byte of words, numbers, names and ends.
func TestWrongByte(t *testing.T) {
	long := strings.Repeat("a", 200)
	for _, x := range []struct {
		text string
		at   int
	}{
		{"a", 0}, {" ", 0}, {"|", 0}, {"\n", 0}, {"\x00", 0}, {"\xff", 0}, {"inserted 1|", 0}, {"C", 0},
		{"KIX", 2}, {"KICKEd|", 5}, {"KICKED0", 6}, {"KICKED\n", 6}, {"KICKED\rx", 7}, {"KICKED  1", 7}, {"KICKED |", 7}, {"KICKED 1 |", 8}, {"KICKED x", 7},
		{"INSERTED|", 8}, {"INSERTED |", 9}, {"INSERTED 0|", 9}, {"INSERTED 01|", 9}, {"INSERTED -1|", 9}, {"INSERTED +1|", 9}, {"INSERTED 1 |", 10}, {"INSERTED 1x|", 10}, {"INSERTED 1\n", 10}, {"INSERTED 1\r\r", 11},
		{"INSERTED 1099511627777|", 21}, {"INSERTED 1099511627780|", 21}, {"INSERTED 2000000000000|", 21}, {"INSERTED 10995116277760|", 22}, {"INSERTED 99999999999999999999999|", 21},
		{"RESERVED|", 8}, {"RESERVED 1|", 10}, {"RESERVED 1 |", 11}, {"RESERVED 0 1|", 9}, {"RESERVED 1 00|", 12}, {"RESERVED 1 01|", 12}, {"RESERVED 1 65536|", 15}, {"RESERVED 1 65540|", 15}, {"RESERVED 1 70000|", 15}, {"RESERVED 1 100000|", 16}, {"RESERVED 1 1 1|", 12}, {"RESERVED  1 1|", 9},
		{"FOUND|", 5}, {"FOUND 1|", 7}, {"FOUND 1 |", 8}, {"FOUND 0", 6}, {"FOUND 1 65536|", 12}, {"FOUND 1099511627777 1|", 18}, {"FOUND 1 -1|", 8},
		{"OK|", 2}, {"OK |", 3}, {"OK 00|", 4}, {"OK 07|", 4}, {"OK 4294967296|", 12}, {"OK 5000000000|", 12}, {"OK 42949672950|", 13}, {"OK 1 |", 4}, {"OK 1 1|", 4}, {"OK x", 3},
		{"OK 1|ab", 7}, {"OK 1|a\rb", 8}, {"OK 0|a", 6}, {"OK 0|\r\r", 7}, {"OK 0|\n", 6}, {"OK 2||a", 8}, {"RESERVED 1 2|abc", 16}, {"FOUND 1 2|ab\n", 13}, {"FOUND 1 2|ab\r\r", 14},
		{"WATCHING|", 8}, {"WATCHING |", 9}, {"WATCHING 00", 10}, {"WATCHING 4294967296|", 18}, {"WATCHING 4294967300|", 18}, {"WATCHING 1 1", 10},
		{"KICKED 01|", 8}, {"KICKED 00|", 8}, {"KICKED 4294967296|", 16},
		{"USING|", 5}, {"USING |", 6}, {"USING  a|", 6}, {"USING -|", 6}, {"USING -a|", 6}, {"USING a |", 7}, {"USING a\n", 7}, {"USING a\r\r", 8}, {"USING a,|", 7}, {"USING é|", 6}, {"USING aé|", 7}, {"USING a\x00|", 7}, {"USING " + long + "a|", 206}, {"USING " + long + "-|", 206}, {"USING " + long + long + long, 206}, {"USING " + long + "\n", 206}, {"USING " + long[1:] + ",", 205},
		{"DEADLINE_SOON |", 13}, {"DEADLINE SOON|", 8}, {"DELETED 1|", 7}, {"DELETED\n", 7}, {"DELETEDx", 7}, {"BURIED 1|", 6}, {"DRAINED", 5}, {"REJ", 2}, {"NOT_X", 4}, {"NOTF", 3}, {"TX", 1}, {"BX", 1}, {"OX", 1}, {"UX", 1}, {"PAUSED\r ", 7},
	} {
		wantWrongAt(t, x.text, x.at)
	}
}

// P8.4: what stands at the edge is right.
func TestRightEdges(t *testing.T) {
	long := strings.Repeat("a", 200)
	for _, x := range []struct {
		text string
		want api.Reply
	}{
		{"INSERTED 1|", api.Reply{Kind: 1, Id: 1}},
		{"INSERTED 1099511627776|", api.Reply{Kind: 1, Id: maxId}},
		{"INSERTED 1000000000000|", api.Reply{Kind: 1, Id: 1000000000000}},
		{"INSERTED 999999999999|", api.Reply{Kind: 1, Id: 999999999999}},
		{"WATCHING 0|", api.Reply{Kind: 10}},
		{"WATCHING 4294967295|", api.Reply{Kind: 10, Number: maxNumber}},
		{"KICKED 4294967295|", api.Reply{Kind: 13, Number: maxNumber}},
		{"KICKED 0|", api.Reply{Kind: 13}},
		{"KICKED|", api.Reply{Kind: 14}},
		{"USING " + long + "|", api.Reply{Kind: 2, Tube: long}},
		{"USING " + long[1:] + "-|", api.Reply{Kind: 2, Tube: long[1:] + "-"}},
		{"USING 0|", api.Reply{Kind: 2, Tube: "0"}},
		{"RESERVED 1099511627776 0||", api.Reply{Kind: 3, Id: maxId}},
	} {
		r := New()
		b := of(x.text)
		for i := range b {
			wantNone(t, r, api.OK)
			r.Feed(b[i : i+1])
		}
		wantTold(t, r, x.want)
		wantHeld(t, r, 0)
	}
	for _, kind := range []int{3, 12, 16} {
		want := sample(kind)
		want.Body = bytes.Repeat([]byte("\r\n"), maxBody)[:maxBody]
		r := New()
		r.Feed([]byte(written(want)))
		wantTold(t, r, want)
		wantHeld(t, r, 0)
	}
}

// P8.4: behind each beginning of a reply of each kind, each byte is wrong or not as a plain reading says.
func TestEachByte(t *testing.T) {
	wrongs, rights := 0, 0
	for kind := 1; kind <= 23; kind++ {
		text := written(sample(kind))
		for at := range len(text) {
			start := New()
			start.Feed([]byte(text[:at]))
			for c := range 256 {
				longer := text[:at] + string([]byte{byte(c)})
				r := start.Clone()
				r.Feed([]byte{byte(c)})
				wantHeld(t, r, at+1)
				_, ok, err := r.Next()
				if begins(longer) != (err == api.OK) || err != api.OK && err != api.ErrAnswerForm {
					t.Fatalf("%q: %v, %d; it begins a reply: %v", longer, ok, err, begins(longer))
				}
				if err == api.OK {
					rights++
				} else {
					wrongs++
				}
			}
		}
	}
	if wrongs < 10000 || rights < 1000 {
		t.Errorf("%d wrong bytes, %d right ones", wrongs, rights)
	}
}

// P8.4, P8.5: replies ahead of a wrong byte are told; what comes behind it is let go.
func TestBehindTheWrongByte(t *testing.T) {
	r := fed("DELETED|OK 1|x|INSERTED 0 and more|DELETED|")
	wantHeld(t, r, 9+9+10)
	r.Feed(of("BURIED|"))
	wantHeld(t, r, 9+9+10)
	wantTold(t, r, sample(6))
	wantHeld(t, r, 9+10)
	r.Feed(of("BURIED|"))
	wantTold(t, r, api.Reply{Kind: 16, Body: []byte("x")})
	for range 3 {
		wantHeld(t, r, 10)
		wantNone(t, r, api.ErrAnswerForm)
		r.Feed(of("BURIED|"))
		r.Feed(nil)
	}
	r = fed("x")
	wantHeld(t, r, 1)
	wantNone(t, r, api.ErrAnswerForm)
	r.Feed(of("DELETED|"))
	wantHeld(t, r, 1)
	wantNone(t, r, api.ErrAnswerForm)
}

// P8.5: asking changes nothing.
func TestHeldChangesNothing(t *testing.T) {
	r := fed("OK 3|ab")
	for range 3 {
		wantHeld(t, r, 8)
		wantNone(t, r, api.OK)
	}
	r.Feed(of("c|x"))
	for range 3 {
		wantHeld(t, r, 12)
	}
	wantTold(t, r, api.Reply{Kind: 16, Body: []byte("abc")})
	wantNone(t, r, api.ErrAnswerForm)
}

// standings are readers that stand each in its own way, with what comes to it then.
func standings() map[string]*Reader {
	told := fed("DELETED|BURIED|PAUSED|OK 2|a")
	told.Next()
	spoilt := fed("DELETED|BURIED|KIX")
	spoilt.Next()
	return map[string]*Reader{
		"new":                New(),
		"in a word":          fed("KICK"),
		"in a number":        fed("KICKED 1"),
		"in a name":          fed("USING a"),
		"in an end":          fed("USING a\r"),
		"ahead of a body":    fed("OK 2|"),
		"in a body":          fed("OK 2|a"),
		"behind a body":      fed("OK 2|ab"),
		"in a body's end":    fed("OK 2|ab\r"),
		"with replies":       fed("DELETED|BURIED|K"),
		"partly told":        told,
		"with a wrong byte":  fed("KIX"),
		"replies and a flaw": spoilt,
	}
}

// allOf tells all that a reader has to tell, and how it stands then.
func allOf(r *Reader) string {
	text := fmt.Sprint(r.Held(), " ")
	for {
		x, ok, err := r.Next()
		if !ok {
			return text + fmt.Sprint(err, " ", r.Held())
		}
		text += show(x) + " "
	}
}

// P8.6, R7: a clone answers as the reader would; what is done to one is not seen at the other.
func TestClone(t *testing.T) {
	tails := []string{"", "ED|", "|", "\n", "b|", "ICKED|", "x", "OK 3|abc|", "ab|DELETED|"}
	for name, r := range standings() {
		before := allOf(r.Clone())
		for _, tail := range tails {
			c, d := r.Clone(), r.Clone()
			c.Feed(of(tail))
			d.Feed(of(tail))
			if one, two := allOf(c), allOf(d); one != two {
				t.Errorf("%s, %q: %s and %s", name, tail, one, two)
			}
			if now := allOf(r.Clone()); now != before {
				t.Errorf("%s, %q: the reader tells %s; want %s", name, tail, now, before)
			}
		}
		for _, tail := range tails {
			old, clone := standings()[name], standings()[name].Clone()
			old.Feed(of(tail))
			other := old.Clone()
			want := allOf(old)
			if got := allOf(other); got != want {
				t.Errorf("%s, %q: the clone tells %s; want %s", name, tail, got, want)
			}
			clone.Feed(of(tail))
			if got := allOf(clone); got != want {
				t.Errorf("%s, %q behind the cloning: %s; want %s", name, tail, got, want)
			}
		}
	}
}

// P8.6, R7: what comes to one of two is not laid into the memory of the other.
func TestCloneMemory(t *testing.T) {
	r := fed("DELETED|OK 6|ab")
	wantTold(t, r, sample(6))
	c := r.Clone()
	r.Feed([]byte("rr"))
	c.Feed([]byte("cc"))
	d := c.Clone()
	d.Feed(of("dd|"))
	c.Feed(of("ee|"))
	r.Feed(of("ff|"))
	wantTold(t, r, api.Reply{Kind: 16, Body: []byte("abrrff")})
	wantTold(t, c, api.Reply{Kind: 16, Body: []byte("abccee")})
	wantTold(t, d, api.Reply{Kind: 16, Body: []byte("abccdd")})
}

// The bytes of names, and numbers as they are written.
var (
	nameBytes = regexp.MustCompile(`^[a-zA-Z0-9+/;.$_()][-a-zA-Z0-9+/;.$_()]*\z`)
	numerals  = regexp.MustCompile(`^(0|[1-9][0-9]*)\z`)
)

func isName(text string) bool { return len(text) <= 200 && nameBytes.MatchString(text) }

// fills tells whether a word may stand at a place of the table.
func fills(place, word string) bool {
	if place == "Tube" {
		return isName(word)
	}
	if !numerals.MatchString(word) {
		return false
	}
	most := map[string]int64{"Id": maxId, "Number": maxNumber, "Body": maxBody, "Data": maxNumber}[place]
	n, _ := new(big.Int).SetString(word, 10)
	return n.Cmp(big.NewInt(most)) <= 0 && (place != "Id" || n.Sign() > 0)
}

// begins tells whether a text is the beginning of a reply's bytes, by the chapter's words.
func begins(text string) bool {
	for kind := range table {
		if beginsKind(kind, text) {
			return true
		}
	}
	return false
}

func beginsKind(kind int, text string) bool {
	line, rest, ended := strings.Cut(text, "\r\n")
	if !ended {
		line, rest, ended = strings.Cut(text, "\r")
		if ended && rest != "" {
			return false
		}
	}
	words := strings.Split(line, " ")
	places := placesOf(kind)
	if len(words) > 1+len(places) || ended && len(words) < 1+len(places) {
		return false
	}
	for i, word := range words {
		last := !ended && i == len(words)-1 // it may go on
		switch {
		case i == 0 && last && !strings.HasPrefix(table[kind][0], word):
			return false
		case i == 0 && !last && word != table[kind][0]:
			return false
		case i > 0 && !(last && word == "") && !fills(places[i-1], word):
			return false
		}
	}
	if !ended || !hasBody(kind) {
		return rest == ""
	}
	size, _ := strconv.Atoi(words[len(words)-1])
	return len(rest) <= size || strings.HasPrefix("\r\n", rest[size:])
}

// readPlainly tells the reply that a text is as a whole.
func readPlainly(text string) (api.Reply, bool) {
	line, rest, ended := strings.Cut(text, "\r\n")
	words := strings.Split(line, " ")
	for kind := range table {
		places := placesOf(kind)
		if !ended || words[0] != table[kind][0] || len(words) != 1+len(places) {
			continue
		}
		r := api.Reply{Kind: kind}
		for i, place := range places {
			n, _ := strconv.Atoi(words[i+1])
			switch place {
			case "Id":
				r.Id = n
			case "Number":
				r.Number = n
			case "Tube":
				r.Tube = words[i+1]
			default:
				if len(rest) != n+2 {
					return api.Reply{}, false
				}
				r.Body = []byte(rest[:n])
			}
		}
		return r, beginsKind(kind, text) && written(r) == text
	}
	return api.Reply{}, false
}

// plain is a reader that keeps all that came, and looks through it from the first byte that is not told.
type plain struct {
	came  string
	wrong bool
}

func (p *plain) feed(text string) {
	p.came += text
	start := 0
	for end := 1; end <= len(p.came); end++ {
		if _, whole := readPlainly(p.came[start:end]); whole {
			start = end
			continue
		}
		if !begins(p.came[start:end]) {
			p.wrong = true
			p.came = p.came[:end]
		}
	}
}

func (p *plain) next() (api.Reply, bool, api.Errno) {
	for end := 1; end <= len(p.came); end++ {
		if r, whole := readPlainly(p.came[:end]); whole {
			p.came = p.came[end:]
			return r, true, api.OK
		}
	}
	if p.wrong {
		return api.Reply{}, false, api.ErrAnswerForm
	}
	return api.Reply{}, false, api.OK
}

// someNumber is a number up to most, small or at an edge more often than not.
func someNumber(dice *rand.Rand, least, most int) int {
	switch dice.Intn(4) {
	case 0:
		return least
	case 1:
		return most - dice.Intn(3)
	case 2:
		return least + dice.Intn(200)
	}
	return least + dice.Intn(most-least)
}

func someReply(dice *rand.Rand) api.Reply {
	r := api.Reply{Kind: 1 + dice.Intn(23)}
	if dice.Intn(2) == 0 {
		r.Kind = []int{1, 2, 3, 10, 12, 13, 14, 16}[dice.Intn(8)]
	}
	for _, place := range placesOf(r.Kind) {
		switch place {
		case "Id":
			r.Id = someNumber(dice, 1, maxId)
		case "Number":
			r.Number = someNumber(dice, 0, maxNumber)
		case "Tube":
			r.Tube = "t" + strings.Repeat("a-$", dice.Intn(10))
		default:
			r.Body = []byte(strings.Repeat([]string{"a", "\r\n", "\r", "DELETED\r\n", "OK 0"}[dice.Intn(5)], dice.Intn(5)))
		}
	}
	return r
}

// spoil changes a byte of a text, takes it out or puts one in.
func spoil(dice *rand.Rand, text string) string {
	if text == "" {
		return text
	}
	at := dice.Intn(len(text))
	c := string([]byte{"\r\n 01xA-_\xff"[dice.Intn(10)]})
	switch dice.Intn(3) {
	case 0:
		return text[:at] + c + text[at:]
	case 1:
		return text[:at] + text[at+1:]
	}
	return text[:at] + c + text[at+1:]
}

// P8.3 to P8.7, R1: right replies, some spoilt, in pieces, are told as a plain reader tells them.
func TestAgainstPlain(t *testing.T) {
	dice := rand.New(rand.NewSource(83))
	told, broken := 0, 0
	for range 3000 {
		text := ""
		for range dice.Intn(6) {
			text += written(someReply(dice))
		}
		for range dice.Intn(3) {
			text = spoil(dice, text)
		}
		r, p := New(), &plain{}
		for text != "" {
			n := 1 + dice.Intn(len(text))
			if dice.Intn(2) == 0 {
				n = 1 + dice.Intn(min(len(text), 4))
			}
			r.Feed([]byte(text[:n]))
			if !p.wrong {
				p.feed(text[:n])
			}
			text = text[n:]
			wantHeld(t, r, len(p.came))
			for range dice.Intn(4) {
				want, whole, code := p.next()
				x, ok, err := r.Next()
				if !same(x, want) || ok != whole || err != code {
					t.Fatalf("Next() = %s, %v, %d; want %s, %v, %d", show(x), ok, err, show(want), whole, code)
				}
				wantHeld(t, r, len(p.came))
				if ok {
					told++
				}
			}
			if dice.Intn(5) == 0 {
				r = r.Clone()
			}
		}
		if p.wrong {
			broken++
		}
	}
	if told < 1000 || broken < 500 {
		t.Errorf("%d told, %d readers with a wrong byte", told, broken)
	}
}

// P8.7: wherever the bytes are cut once or twice, the same is told.
func TestCuts(t *testing.T) {
	for _, text := range []string{
		"RESERVED 12 4|a|b|KICKED|KICKED 0|USING a.b|OK 0|||",
		"KICKED 4294967295|FOUND 1 2||||DELETED|OK 3|abcd",
		"INSERTED 10|INSERTED 01|INSERTED 1|",
		"NOT_FOUND|NOT_IGNORED|NOT_X",
	} {
		b := of(text)
		want := allOf(fed(text))
		for i := range len(b) + 1 {
			for k := i; k <= len(b); k++ {
				r := New()
				for _, piece := range [][]byte{b[:i], b[i:k], b[k:]} {
					r.Feed(piece)
				}
				if got := allOf(r); got != want {
					t.Fatalf("%q, cut at %d and %d: %s; want %s", text, i, k, got, want)
				}
			}
		}
	}
}

// P8.7: asking for replies between the pieces changes nothing of what is told.
func TestCutsWithAsking(t *testing.T) {
	dice := rand.New(rand.NewSource(87))
	for range 500 {
		text := ""
		var want []string
		for range 1 + dice.Intn(8) {
			x := someReply(dice)
			text += written(x)
			want = append(want, show(x))
		}
		r := New()
		var got []string
		for text != "" {
			n := 1 + dice.Intn(len(text))
			r.Feed([]byte(text[:n]))
			text = text[n:]
			for dice.Intn(4) > 0 {
				if x, ok, _ := r.Next(); ok {
					got = append(got, show(x))
				}
			}
		}
		for x, ok, _ := r.Next(); ok; x, ok, _ = r.Next() {
			got = append(got, show(x))
		}
		if !slices.Equal(got, want) || r.Held() != 0 {
			t.Fatalf("told %q; want %q", got, want)
		}
	}
}

// P8.7: replies that were written are read just so; those that were read, written again, are the bytes that came.
func TestRoundTrips(t *testing.T) {
	dice := rand.New(rand.NewSource(88))
	for range 500 {
		var replies []api.Reply
		var all []byte
		for range dice.Intn(20) {
			x := someReply(dice)
			b, err := Put(x)
			if err != api.OK {
				t.Fatalf("Put(%s) = %d", show(x), err)
			}
			replies = append(replies, x)
			all = append(all, b...)
		}
		r := New()
		r.Feed(all)
		var again []byte
		for _, want := range replies {
			x, ok, err := r.Next()
			if !same(x, want) || !ok || err != api.OK || Check(x) != api.OK {
				t.Fatalf("Next() = %s, %v, %d; want %s", show(x), ok, err, show(want))
			}
			b, _ := Put(x)
			again = append(again, b...)
		}
		wantNone(t, r, api.OK)
		if !bytes.Equal(again, all) {
			t.Fatalf("written again %q; it came as %q", again, all)
		}
	}
}

// P8.8: two unlike replies have unlike bytes, and none is the beginning of the other.
func TestNoneBeginsAnother(t *testing.T) {
	dice := rand.New(rand.NewSource(89))
	replies := []api.Reply{
		{Kind: 13}, {Kind: 13, Number: 1}, {Kind: 13, Number: 10}, {Kind: 14},
		{Kind: 1, Id: 1}, {Kind: 1, Id: 10}, {Kind: 1, Id: 101},
		{Kind: 3, Id: 1}, {Kind: 3, Id: 1, Body: []byte("\r\n")}, {Kind: 3, Id: 11}, {Kind: 3, Id: 1, Body: []byte("\r\n\r\n")},
		{Kind: 16}, {Kind: 16, Body: []byte("\r\n")}, {Kind: 16, Body: []byte("\r")}, {Kind: 16, Body: []byte("\n")},
		{Kind: 2, Tube: "a"}, {Kind: 2, Tube: "aa"},
	}
	for kind := 1; kind <= 23; kind++ {
		replies = append(replies, sample(kind))
	}
	for range 300 {
		replies = append(replies, someReply(dice))
	}
	for _, x := range replies {
		a, _ := Put(x)
		for _, y := range replies {
			b, err := Put(y)
			if err != api.OK {
				t.Fatalf("Put(%s) = %d", show(y), err)
			}
			if bytes.HasPrefix(b, a) != same(x, y) {
				t.Fatalf("%s and %s are %q and %q", show(x), show(y), a, b)
			}
		}
	}
}

// R4: what is handed in to Check and Put is neither changed nor kept, nor the room behind the body.
func TestPutChangesNothing(t *testing.T) {
	room := []byte("abcdefghijklmnop")
	tube := []byte("mail")
	data := api.Reply{Kind: 16, Body: room[:4]}
	using := api.Reply{Kind: 2, Tube: unsafe.String(&tube[0], len(tube))}
	one, _ := Put(data)
	two, _ := Put(using)
	Check(data)
	if string(room) != "abcdefghijklmnop" || string(tube) != "mail" {
		t.Fatalf("changed to %q, %q", room, tube)
	}
	for i := range room {
		room[i] = 'z'
	}
	copy(tube, "zzzz")
	if string(one) != "OK 4\r\nabcd\r\n" || string(two) != "USING mail\r\n" {
		t.Errorf("the answers are %q and %q now", one, two)
	}
}

// R4: what Put answers is new memory, its spare room too.
func TestPutIsNew(t *testing.T) {
	for kind := 1; kind <= 23; kind++ {
		one, _ := Put(sample(kind))
		two, _ := Put(sample(kind))
		for i := range one[:cap(one)] {
			one[:cap(one)][i] = 'z'
		}
		if string(two) != written(sample(kind)) {
			t.Errorf("kind %d: an earlier answer shows %q", kind, two)
		}
		for _, c := range two[len(two):cap(two)] {
			if c == 'z' {
				t.Errorf("kind %d: the room is shared", kind)
			}
		}
		wantRight(t, sample(kind), written(sample(kind)))
	}
}

// R4: bytes that come are neither changed nor kept, nor the room behind their end.
func TestFeedKeepsNothing(t *testing.T) {
	room := of("USING mail|OK 2|ab|PAUS, and the room")
	text := string(room)
	r := New()
	r.Feed(room[:26])
	r.Feed(of("ED|"))
	if string(room) != text {
		t.Fatalf("it is %q now", room)
	}
	for i := range room {
		room[i] = 'z'
	}
	wantTold(t, r, api.Reply{Kind: 2, Tube: "mail"})
	wantTold(t, r, api.Reply{Kind: 16, Body: []byte("ab")})
	wantTold(t, r, sample(15))
	wantHeld(t, r, 0)
	if strings.Trim(string(room), "z") != "" {
		t.Fatalf("it is %q now", room)
	}
}

// R4: what is told is new memory, its spare room too, and stays as it is.
func TestToldIsNew(t *testing.T) {
	r := fed("OK 3|one|FOUND 1 3|two|USING mail|OK 0||RESERVED 2 3|abc|OK 4|re")
	c := r.Clone()
	var bodies [][]byte
	var tubes []string
	for range 5 {
		x, ok, _ := r.Next()
		if !ok {
			t.Fatal("none is told")
		}
		for _, b := range bodies {
			if strings.Trim(string(b[:cap(b)]), "z") != "" {
				t.Fatalf("an earlier answer shows %q", b[:cap(b)])
			}
		}
		room := x.Body[:cap(x.Body)]
		for i := range room {
			room[i] = 'z'
		}
		bodies = append(bodies, x.Body)
		tubes = append(tubes, x.Tube)
	}
	r.Feed(of("st|"))
	wantTold(t, r, api.Reply{Kind: 16, Body: []byte("rest")})
	if tubes[2] != "mail" {
		t.Errorf("the tube is %q now", tubes[2])
	}
	wantTold(t, c, api.Reply{Kind: 16, Body: []byte("one")})
	wantTold(t, c, api.Reply{Kind: 12, Id: 1, Body: []byte("two")})
}

// R4: tubes that were told stay as they are, whatever comes later.
func TestTubesStay(t *testing.T) {
	r := New()
	var tubes []string
	name := func(n int) string { return strings.Repeat(string(rune('a'+n%26)), 1+n%200) }
	for n := range 500 {
		r.Feed(of("USING " + name(n) + "|"))
		x, _, _ := r.Next()
		tubes = append(tubes, x.Tube)
	}
	for n, tube := range tubes {
		if tube != name(n) {
			t.Fatalf("the tube %d is %q now; want %q", n, tube, name(n))
		}
	}
}

// R5: what is told of one reader leaves no trace at another, and calls leave none behind.
func TestCallsForgetEachOther(t *testing.T) {
	for range 3 {
		wantNone(t, fed("KIX"), api.ErrAnswerForm)
		wantTold(t, fed("KICKED|"), sample(14))
		wantRefused(t, api.Reply{Kind: 1}, api.ErrAnswerField)
		wantRight(t, api.Reply{Kind: 1, Id: 5}, "INSERTED 5\r\n")
	}
}

// R1: any bytes at all are taken, in great pieces and in small ones.
func TestAnyBytes(t *testing.T) {
	dice := rand.New(rand.NewSource(81))
	for range 2000 {
		b := make([]byte, dice.Intn(300))
		dice.Read(b)
		r := fed([]string{"", "OK 100|", "USING ", "INSERTED ", "FOUND 7 ", "KICKED"}[dice.Intn(6)])
		held := r.Held()
		r.Feed(b)
		for range 3 {
			if n := r.Held(); n < 0 || n > held+len(b) {
				t.Fatalf("Held() = %d of %d", n, held+len(b))
			}
			r.Next()
		}
	}
	for n := range 10 {
		r := fed([]string{"", "OK ", "OK 9|", "USING ", "INSERTED 1", "FOUND 7 ", "KICKED", "KICKED ", "RESERVED 1 1|", "DELETED|"}[n])
		r.Feed(bytes.Repeat([]byte("9"), 1<<22))
		for range 2 {
			r.Next()
		}
		if r.Held() > 300 {
			t.Errorf("Held() = %d", r.Held())
		}
	}
}

// A great many replies that are held, a great body byte by byte: the time grows as the bytes do.
func TestGreatReader(t *testing.T) {
	start := time.Now()
	const replies = 1 << 18
	r := New()
	r.Feed(bytes.Repeat(of("OK 3|abc|DRAINING|"), replies))
	for range replies {
		wantTold(t, r, api.Reply{Kind: 16, Body: []byte("abc")})
		wantTold(t, r, sample(23))
	}
	wantHeld(t, r, 0)
	const size = 1 << 22
	r.Feed(of(fmt.Sprintf("DELETED|OK %d|", size)))
	head := r.Held()
	wantTold(t, r, sample(6))
	for i := range size {
		r.Feed([]byte{byte(i)})
		if _, ok, err := r.Next(); ok || err != api.OK {
			t.Fatalf("behind %d bytes of the body: %v, %d", i+1, ok, err)
		}
	}
	wantHeld(t, r, head-9+size)
	r.Feed(of("|DELETED|"))
	if x, ok, _ := r.Next(); !ok || len(x.Body) != size || x.Body[1000] != 1000%256 {
		t.Fatalf("told %s, %v", show(x), ok)
	}
	wantTold(t, r, sample(6))
	for range 200 {
		name := strings.Repeat("n", 200)
		for _, c := range of("USING " + name + "|") {
			r.Feed([]byte{c})
		}
		wantTold(t, r, api.Reply{Kind: 2, Tube: name})
	}
	if took := time.Since(start); took > time.Minute {
		t.Errorf("it took %v", took)
	}
}

// A body that is said to be great takes no memory till it comes.
func TestGreatBodyNotComeYet(t *testing.T) {
	var before, after runtime.MemStats
	runtime.ReadMemStats(&before)
	r := fed("OK 4294967295|")
	wantNone(t, r, api.OK)
	wantHeld(t, r, 15)
	r.Feed([]byte("abc"))
	wantNone(t, r, api.OK)
	wantHeld(t, r, 18)
	c := r.Clone()
	c.Feed(of("||"))
	wantHeld(t, c, 22)
	runtime.ReadMemStats(&after)
	if laid := after.TotalAlloc - before.TotalAlloc; laid > 1<<20 {
		t.Errorf("%d bytes of memory", laid)
	}
}

// What was told, and what is let go, is not kept.
func TestNothingNeedlessIsKept(t *testing.T) {
	const replies = 1 << 16
	r := New()
	r.Feed(append(bytes.Repeat(of("DELETED|"), replies), 'K'))
	for range replies {
		wantTold(t, r, sample(6))
	}
	wantHeld(t, r, 1)
	if cap(r.came) > 1024 {
		t.Errorf("%d bytes are kept for one", cap(r.came))
	}
	r.Feed(append(of("ICKED|x"), make([]byte, 1<<20)...))
	wantHeld(t, r, 9)
	if cap(r.came) > 1024 {
		t.Errorf("%d bytes are kept behind a wrong one", cap(r.came))
	}
	wantTold(t, r, sample(14))
	wantHeld(t, r, 1)
	r.Feed(make([]byte, 1<<20))
	if cap(r.came) > 1024 {
		t.Errorf("%d bytes are kept behind a wrong one", cap(r.came))
	}
}
