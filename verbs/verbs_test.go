package verbs

import (
	"bytes"
	"fmt"
	"math"
	"math/big"
	"math/rand"
	"regexp"
	"runtime"
	"slices"
	"strings"
	"testing"
	"time"
	"unsafe"

	"stint/api"
	"stint/intake"
)

// The chapter's table, as it is written there: of each kind the verb and what stands behind it.
var table = map[int][2]string{
	1:  {"put", "PRI DELAY TTR BYTES"},
	2:  {"use", "TUBE"},
	3:  {"reserve", ""},
	4:  {"reserve-with-timeout", "TICKS"},
	5:  {"reserve-job", "ID"},
	6:  {"delete", "ID"},
	7:  {"release", "ID PRI DELAY"},
	8:  {"bury", "ID PRI"},
	9:  {"touch", "ID"},
	10: {"watch", "TUBE"},
	11: {"ignore", "TUBE"},
	12: {"peek", "ID"},
	13: {"peek-ready", ""},
	14: {"peek-delayed", ""},
	15: {"peek-buried", ""},
	16: {"kick", "BOUND"},
	17: {"kick-job", "ID"},
	18: {"stats-job", "ID"},
	19: {"stats-tube", "TUBE"},
	20: {"stats", ""},
	21: {"list-tubes", ""},
	22: {"list-tube-used", ""},
	23: {"list-tubes-watched", ""},
	24: {"pause-tube", "TUBE TICKS"},
	25: {"quit", ""},
}

const (
	maxNumber = 4294967295
	maxWord   = 4611686018427387903
	maxBody   = 65535
)

// behindVerb tells what the table has behind a kind's verb.
func behindVerb(kind int) []string { return strings.Fields(table[kind][1]) }

// mostOf tells how great the number of a place of the table may be.
func mostOf(place string) int {
	if place == "ID" {
		return maxWord
	}
	return maxNumber
}

// holds is the number of a command that a place of the table speaks of.
func holds(c *api.Cmd, place string) *int {
	switch place {
	case "ID":
		return &c.Id
	case "PRI":
		return &c.Pri
	case "DELAY":
		return &c.Delay
	case "TTR":
		return &c.TTR
	case "BYTES", "TICKS", "BOUND":
		return &c.Number
	}
	panic(place)
}

// same holds two commands against each other; a nil body is an empty one.
func same(a, b api.Cmd) bool {
	return a.Kind == b.Kind && a.Id == b.Id && a.Pri == b.Pri && a.Delay == b.Delay && a.TTR == b.TTR &&
		a.Number == b.Number && a.Tube == b.Tube && bytes.Equal(a.Body, b.Body)
}

func show(c api.Cmd) string {
	return fmt.Sprintf("{kind %d, id %d, pri %d, delay %d, ttr %d, number %d, tube %.30q of %d, body %.30q of %d}",
		c.Kind, c.Id, c.Pri, c.Delay, c.TTR, c.Number, c.Tube, len(c.Tube), c.Body, len(c.Body))
}

func wantParsed(t *testing.T, line string, want api.Cmd) {
	t.Helper()
	if c, err := Parse(line); err != api.OK || !same(c, want) {
		t.Errorf("Parse(%.60q) = %s, %d; want %s, 0", line, show(c), err, show(want))
	}
}

func wantUnread(t *testing.T, line string, want api.Errno) {
	t.Helper()
	if c, err := Parse(line); err != want || !same(c, api.Cmd{}) {
		t.Errorf("Parse(%.60q) = %s, %d; want none, %d", line, show(c), err, want)
	}
}

func wantPrinted(t *testing.T, c api.Cmd, want string) {
	t.Helper()
	if line, err := Print(c); line != want || err != api.OK {
		t.Errorf("Print(%s) = %.60q, %d; want %.60q, 0", show(c), line, err, want)
	}
}

func wantUnprinted(t *testing.T, c api.Cmd) {
	t.Helper()
	if line, err := Print(c); line != "" || err != api.ErrVerbCmd {
		t.Errorf("Print(%s) = %.60q, %d; want none, 72", show(c), line, err)
	}
}

func wantCheck(t *testing.T, c api.Cmd, want api.Errno) {
	t.Helper()
	if err := Check(c); err != want {
		t.Errorf("Check(%s) = %d; want %d", show(c), err, want)
	}
}

// wantRight: Check takes it, and Print writes it so.
func wantRight(t *testing.T, c api.Cmd, line string) {
	t.Helper()
	wantCheck(t, c, api.OK)
	wantPrinted(t, c, line)
}

// wantWrong: Check and Print refuse it.
func wantWrong(t *testing.T, c api.Cmd) {
	t.Helper()
	wantCheck(t, c, api.ErrVerbCmd)
	wantUnprinted(t, c)
}

// plain is a command of a kind that may be done, with fields that differ, and the words of its line.
func plain(kind int) (api.Cmd, []string) {
	c := api.Cmd{Kind: kind}
	words := []string{table[kind][0]}
	for i, place := range behindVerb(kind) {
		if place == "TUBE" {
			c.Tube = "mail"
			words = append(words, "mail")
			continue
		}
		n := 11 + i
		*holds(&c, place) = n
		words = append(words, fmt.Sprint(n))
	}
	if kind == api.CmdPut {
		c.Body = bytes.Repeat([]byte("b"), c.Number)
	}
	return c, words
}

func withoutBody(c api.Cmd) api.Cmd {
	c.Body = nil
	return c
}

// with is a list with another word at a place.
func with(words []string, i int, word string) string {
	words = slices.Clone(words)
	words[i] = word
	return strings.Join(words, " ")
}

// The chapter's examples, line by line.
func TestExamples(t *testing.T) {
	wantParsed(t, "put 0 10 60 5", api.Cmd{Kind: api.CmdPut, Pri: 0, Delay: 10, TTR: 60, Number: 5})
	wantParsed(t, "put 0 0 0 0", api.Cmd{Kind: api.CmdPut, TTR: 1})
	for _, line := range []string{"put 0 0 0", "put 0 0 0 -1", "put 4294967296 0 1 1", "put  0 0 1 1", "put"} {
		wantUnread(t, line, api.ErrVerbForm)
	}
	wantUnread(t, "reserve ", api.ErrVerbForm)
	wantUnread(t, "reserve x", api.ErrVerbForm)
	wantUnread(t, "reserve\r", api.ErrVerbUnknown)
	for _, line := range []string{"", " put", "PUT 0 0 1 1", "reserveX", "list-tube"} {
		wantUnread(t, line, api.ErrVerbUnknown)
	}
	wantParsed(t, "delete 0", api.Cmd{Kind: api.CmdDelete})
	wantUnread(t, "delete 4611686018427387904", api.ErrVerbForm)
	wantParsed(t, "delete 4611686018427387903", api.Cmd{Kind: api.CmdDelete, Id: maxWord})
	wantUnread(t, "use -a", api.ErrVerbForm)
	wantParsed(t, "use a", api.Cmd{Kind: api.CmdUse, Tube: "a"})
	wantUnread(t, "use a b", api.ErrVerbForm)
	wantParsed(t, "pause-tube a 007", api.Cmd{Kind: api.CmdPause, Tube: "a", Number: 7})
	wantPrinted(t, api.Cmd{Kind: api.CmdPause, Tube: "a", Number: 7}, "pause-tube a 7")
	put := api.Cmd{Kind: api.CmdPut, TTR: 1, Number: 2, Body: []byte("xyz")}
	wantPrinted(t, put, "put 0 0 1 2")
	wantCheck(t, put, api.ErrVerbCmd)
	wantUnprinted(t, api.Cmd{Kind: api.CmdStats, Id: 1})
	wantUnprinted(t, api.Cmd{Kind: api.CmdStats, Body: []byte("x")})
	wantUnprinted(t, api.Cmd{})
	if got := Name(26); got != "" {
		t.Errorf("Name(26) = %q; want none", got)
	}
}

// The kinds, errors and limits have the numbers that the chapter and the document say.
func TestNumbers(t *testing.T) {
	if api.ErrVerbUnknown != 70 || api.ErrVerbForm != 71 || api.ErrVerbCmd != 72 {
		t.Error("errors", api.ErrVerbUnknown, api.ErrVerbForm, api.ErrVerbCmd)
	}
	if api.MaxNumber != maxNumber || api.MaxWord != maxWord || api.MaxBody != maxBody || api.MaxLine != 224 {
		t.Error("limits", api.MaxNumber, api.MaxWord, api.MaxBody, api.MaxLine)
	}
	kinds := []int{api.CmdPut, api.CmdUse, api.CmdReserve, api.CmdReserveWithin, api.CmdReserveJob, api.CmdDelete,
		api.CmdRelease, api.CmdBury, api.CmdTouch, api.CmdWatch, api.CmdIgnore, api.CmdPeek, api.CmdPeekReady,
		api.CmdPeekDelayed, api.CmdPeekBuried, api.CmdKick, api.CmdKickJob, api.CmdStatsJob, api.CmdStatsTube,
		api.CmdStats, api.CmdListTubes, api.CmdListUsed, api.CmdListWatched, api.CmdPause, api.CmdQuit}
	for i, kind := range kinds {
		if kind != i+1 {
			t.Error("kind", i+1, kind)
		}
	}
	if len(kinds) != 25 || len(table) != 25 || api.Commands != 25 {
		t.Error("kinds", len(kinds), len(table), api.Commands)
	}
}

// P7.1: each kind has the verb of the table.
func TestNameOfKinds(t *testing.T) {
	for kind := 1; kind <= 25; kind++ {
		if got := Name(kind); got != table[kind][0] {
			t.Errorf("Name(%d) = %q; want %q", kind, got, table[kind][0])
		}
	}
}

// P7.1, R1: a number that is no kind has no verb.
func TestNameOfOthers(t *testing.T) {
	for _, kind := range []int{0, -1, -25, 26, 27, 255, 257, 1<<16 + 1, 1<<32 + 1, -1 << 32, math.MaxInt, math.MinInt} {
		if got := Name(kind); got != "" {
			t.Errorf("Name(%d) = %q; want none", kind, got)
		}
	}
}

// P7.2: each verb with words of the right kinds is a command with these fields, and all others zero.
func TestParseEachKind(t *testing.T) {
	for kind := 1; kind <= 25; kind++ {
		c, words := plain(kind)
		wantParsed(t, strings.Join(words, " "), withoutBody(c))
	}
	wantParsed(t, "put 1 2 3 4", api.Cmd{Kind: 1, Pri: 1, Delay: 2, TTR: 3, Number: 4})
	wantParsed(t, "reserve-with-timeout 5", api.Cmd{Kind: 4, Number: 5})
	wantParsed(t, "release 1 2 3", api.Cmd{Kind: 7, Id: 1, Pri: 2, Delay: 3})
	wantParsed(t, "bury 1 2", api.Cmd{Kind: 8, Id: 1, Pri: 2})
	wantParsed(t, "kick 9", api.Cmd{Kind: 16, Number: 9})
	wantParsed(t, "pause-tube x 9", api.Cmd{Kind: 24, Tube: "x", Number: 9})
	wantParsed(t, "pause-tube 9 9", api.Cmd{Kind: 24, Tube: "9", Number: 9})
}

// P7.2: a first word that is none of the verbs is unknown, whatever stands behind it.
func TestParseUnknown(t *testing.T) {
	tails := []string{"", " ", " 1", " a 1", "  ", " \xff", " 1 2 3 4 5 6", " \r"}
	firsts := []string{"", "x", "list-tube", "list", "peek-", "stats-", "kick-", "reserve-", "pause", "touché", "\xff", "\x00", "0", "-"}
	for kind := 1; kind <= 25; kind++ {
		verb := table[kind][0]
		firsts = append(firsts, strings.ToUpper(verb), strings.ToUpper(verb[:1])+verb[1:], verb+"x", "x"+verb, verb+"\r", verb+"\n",
			verb+"\t", "\t"+verb, verb+"\x00", verb+"\u00a0", verb+"é", verb+"\t1", verb+"\r\n", verb[1:], verb+verb, verb+",")
	}
	for _, first := range firsts {
		for _, tail := range tails {
			wantUnread(t, first+tail, api.ErrVerbUnknown)
		}
	}
	for kind := 1; kind <= 25; kind++ {
		wantUnread(t, " "+table[kind][0], api.ErrVerbUnknown)
		wantUnread(t, table[kind][0][:len(table[kind][0])-1]+" ", api.ErrVerbUnknown)
	}
}

// P7.2: a verb that is part of another one is its own.
func TestParseVerbsThatBeginAlike(t *testing.T) {
	wantParsed(t, "reserve", api.Cmd{Kind: 3})
	wantParsed(t, "reserve-job 3", api.Cmd{Kind: 5, Id: 3})
	wantParsed(t, "peek 3", api.Cmd{Kind: 12, Id: 3})
	wantParsed(t, "peek-ready", api.Cmd{Kind: 13})
	wantParsed(t, "kick 3", api.Cmd{Kind: 16, Number: 3})
	wantParsed(t, "kick-job 3", api.Cmd{Kind: 17, Id: 3})
	wantParsed(t, "stats", api.Cmd{Kind: 20})
	wantParsed(t, "stats-tube 3", api.Cmd{Kind: 19, Tube: "3"})
	wantParsed(t, "list-tubes", api.Cmd{Kind: 21})
	wantParsed(t, "list-tubes-watched", api.Cmd{Kind: 23})
	wantUnread(t, "peek", api.ErrVerbForm)
	wantUnread(t, "peek-ready 3", api.ErrVerbForm)
	wantUnread(t, "stats 3", api.ErrVerbForm)
}

// P7.2: more or fewer words, blanks too many, and pieces that are no words have not the form.
func TestParseWrongWords(t *testing.T) {
	for kind := 1; kind <= 25; kind++ {
		_, words := plain(kind)
		line := strings.Join(words, " ")
		for n := 1; n < len(words); n++ {
			wantUnread(t, strings.Join(words[:n], " "), api.ErrVerbForm)
			wantUnread(t, strings.Join(words[:n], " ")+"  "+strings.Join(words[n:], " "), api.ErrVerbForm)
			// The count of blanks is right, but one piece is empty.
			wantUnread(t, with(words, n, ""), api.ErrVerbForm)
		}
		for _, tail := range []string{" ", "  ", " 1", " a", " \r", " \xff", " 1 2 3 4 5 6 7 8"} {
			wantUnread(t, line+tail, api.ErrVerbForm)
		}
		if len(words) == 1 {
			continue
		}
		for _, tail := range []string{"\r", "\n", "\r\n", "\t", "\x00", "\x7f", "\xff", "é", "\u2003"} {
			wantUnread(t, line+tail, api.ErrVerbForm)
		}
	}
}

// P7.2: a number is digits, 0 to MaxNumber, and an id to MaxWord, zeros ahead as many as there are.
func TestParseNumbers(t *testing.T) {
	wrong := []string{"-1", "-0", "+1", "+0", "x", "1x", "x1", "0x1", "1e3", "1.0", "1_0", "1,0", "a", "-", "+", "٣", "１", "é",
		"18446744073709551616", "18446744073709551617", "9223372036854775808", "-9223372036854775808", "4611686018427387904",
		"1" + strings.Repeat("0", 500)}
	for kind := 1; kind <= 25; kind++ {
		for i, place := range behindVerb(kind) {
			if place == "TUBE" {
				continue
			}
			c, words := plain(kind)
			c = withoutBody(c)
			most := mostOf(place)
			for _, n := range []int{1, 2, 9, 10, 65535, 65536, 1 << 31, maxNumber - 1, maxNumber, most - 1, most} {
				*holds(&c, place) = n
				for _, zeros := range []int{0, 1, 2, 30, 5000} {
					wantParsed(t, with(words, i+1, strings.Repeat("0", zeros)+fmt.Sprint(n)), c)
				}
			}
			for _, word := range append(wrong, fmt.Sprint(most+1), "00"+fmt.Sprint(most+1), fmt.Sprint(most)+"0") {
				wantUnread(t, with(words, i+1, word), api.ErrVerbForm)
			}
		}
	}
}

// P7.2: MaxNumber bounds all numbers but ids.
func TestParseNumbersAreNoIds(t *testing.T) {
	for _, line := range []string{"put 4294967296 0 1 1", "put 0 4294967296 1 1", "put 0 0 4294967296 1", "put 0 0 1 4294967296",
		"reserve-with-timeout 4294967296", "release 1 4294967296 0", "release 1 0 4294967296", "bury 1 4294967296", "kick 4294967296", "pause-tube a 4294967296"} {
		wantUnread(t, line, api.ErrVerbForm)
		wantUnread(t, strings.Replace(line, "4294967296", "4611686018427387903", 1), api.ErrVerbForm)
	}
	for _, verb := range []string{"reserve-job", "delete", "touch", "peek", "kick-job", "stats-job"} {
		if c, err := Parse(verb + " 4294967296"); err != api.OK || c.Id != 1<<32 {
			t.Errorf("Parse(%s 4294967296) = %s, %d", verb, show(c), err)
		}
	}
}

// P7.2: 0 is a right number at each place; a put's TTR 0, and no other number, is told as 1.
func TestParseZeros(t *testing.T) {
	for kind := 1; kind <= 25; kind++ {
		for _, zero := range []string{"0", "00", strings.Repeat("0", 300)} {
			c := api.Cmd{Kind: kind}
			words := []string{table[kind][0]}
			for _, place := range behindVerb(kind) {
				switch place {
				case "TUBE":
					c.Tube = "0"
					words = append(words, "0")
				case "TTR":
					c.TTR = 1
					words = append(words, zero)
				default:
					words = append(words, zero)
				}
			}
			wantParsed(t, strings.Join(words, " "), c)
		}
	}
	wantParsed(t, "put 0 0 1 0", api.Cmd{Kind: 1, TTR: 1})
	wantParsed(t, "put 0 0 2 0", api.Cmd{Kind: 1, TTR: 2})
}

// P7.2: a put's line may say more bytes than a body may have.
func TestParsePutBytes(t *testing.T) {
	for _, n := range []int{0, 1, maxBody, maxBody + 1, 99999999, maxNumber} {
		wantParsed(t, fmt.Sprintf("put 0 0 1 %d", n), api.Cmd{Kind: 1, TTR: 1, Number: n})
	}
}

// P7.2: a tube is a name, of 1 to MaxName bytes.
func TestParseTubes(t *testing.T) {
	right := []string{"a", "Z", "0", "9a", "a-", "+", "/", ";", ".", "$", "_", "(", ")", "a-b+c/d;e.f$g_h(i)J9", "default", "put",
		strings.Repeat("a", 199), strings.Repeat("a", 200)}
	wrong := []string{"-", "-a", "a,b", "a:b", "a\tb", "a\r", "é", "\xff", "a\x00", "a\x7f", "~", "!", "a*", strings.Repeat("a", 201), strings.Repeat("a", 5000)}
	for kind := 1; kind <= 25; kind++ {
		c, words := plain(kind)
		for i, place := range behindVerb(kind) {
			if place != "TUBE" {
				continue
			}
			for _, name := range right {
				c.Tube = name
				wantParsed(t, with(words, i+1, name), c)
				wantRight(t, c, with(words, i+1, name))
			}
			for _, name := range append(wrong, "", "a b", " a", "a ") {
				c.Tube = name
				wantUnread(t, with(words, i+1, name), api.ErrVerbForm)
				wantWrong(t, c)
			}
		}
	}
}

// P7.3, P7.4: a command of each kind with the fields that it has may be done, and has its line.
func TestCheckAndPrintEachKind(t *testing.T) {
	for kind := 1; kind <= 25; kind++ {
		c, words := plain(kind)
		wantRight(t, c, strings.Join(words, " "))
	}
	wantRight(t, api.Cmd{Kind: 1, Pri: 1, Delay: 2, TTR: 3, Number: 4, Body: []byte("abcd")}, "put 1 2 3 4")
	wantRight(t, api.Cmd{Kind: 7, Id: 1, Pri: 2, Delay: 3}, "release 1 2 3")
	wantRight(t, api.Cmd{Kind: 8, Id: 1, Pri: 2}, "bury 1 2")
	wantRight(t, api.Cmd{Kind: 24, Tube: "x", Number: 9}, "pause-tube x 9")
	wantRight(t, api.Cmd{Kind: 25}, "quit")
}

// P7.3, P7.4: a Kind that is none of 1 to 25 is refused, whatever fields there are.
func TestCheckAndPrintNoKind(t *testing.T) {
	for _, kind := range []int{0, -1, 26, 27, 257, 1<<32 + 1, math.MaxInt, math.MinInt} {
		wantWrong(t, api.Cmd{Kind: kind})
		wantWrong(t, api.Cmd{Kind: kind, Id: 1})
		wantWrong(t, api.Cmd{Kind: kind, Tube: "a"})
		wantWrong(t, api.Cmd{Kind: kind, TTR: 1, Number: 1, Body: []byte("x")})
	}
}

// P7.3, P7.4: the numbers that a kind has stand in their bounds, and the others are 0.
func TestCheckAndPrintNumbers(t *testing.T) {
	for kind := 1; kind <= 25; kind++ {
		places := behindVerb(kind)
		for _, place := range []string{"ID", "PRI", "DELAY", "TTR", "TICKS"} {
			at := slices.IndexFunc(places, func(p string) bool { return fieldName(p) == fieldName(place) })
			for _, n := range []int{math.MinInt, -1 << 40, -1, 0, 1, 2, maxBody, maxBody + 1, maxNumber, maxNumber + 1, 1 << 40, maxWord, maxWord + 1, math.MaxInt} {
				c, words := plain(kind)
				*holds(&c, place) = n
				least, most := 0, 0
				if at >= 0 {
					most = mostOf(place)
				}
				if kind == api.CmdPut && place == "TTR" {
					least = 1
				}
				if n < least || n > most {
					wantWrong(t, c)
					continue
				}
				line := strings.Join(words, " ")
				if at >= 0 {
					line = with(words, at+1, fmt.Sprint(n))
				}
				wantPrinted(t, c, line)
				if kind != api.CmdPut || place != "TICKS" {
					wantCheck(t, c, api.OK)
				}
			}
		}
	}
}

// fieldName is the field that a place of the table speaks of.
func fieldName(place string) string {
	switch place {
	case "BYTES", "TICKS", "BOUND":
		return "Number"
	}
	return place
}

// P7.3: a put's Number is 0 to MaxBody, and its Body has just so many bytes.
func TestCheckPutBody(t *testing.T) {
	for _, n := range []int{0, 1, 2, 100, maxBody - 1, maxBody, maxBody + 1, maxBody + 2} {
		for _, size := range []int{0, n - 1, n, n + 1, maxBody, maxBody + 1} {
			if size < 0 {
				continue
			}
			want := api.ErrVerbCmd
			if size == n && n <= 65535 {
				want = api.OK
			}
			wantCheck(t, api.Cmd{Kind: 1, TTR: 1, Number: n, Body: make([]byte, size)}, want)
		}
	}
	wantCheck(t, api.Cmd{Kind: 1, TTR: 1, Number: -1}, api.ErrVerbCmd)
	wantCheck(t, api.Cmd{Kind: 1, TTR: 1, Number: maxNumber}, api.ErrVerbCmd)
	wantCheck(t, api.Cmd{Kind: 1, TTR: 0, Number: 1, Body: []byte("x")}, api.ErrVerbCmd)
	wantCheck(t, api.Cmd{Kind: 1, TTR: 1, Number: 4, Body: []byte{0, 13, 10, 255}}, api.OK)
}

// P7.4: of a put the Number may be up to MaxNumber, and the Body is not looked at.
func TestPrintPutBody(t *testing.T) {
	for _, n := range []int{0, 1, 2, maxBody, maxBody + 1, maxNumber} {
		for _, size := range []int{0, 1, 2, 3, maxBody, maxBody + 1} {
			wantPrinted(t, api.Cmd{Kind: 1, Pri: 4, Delay: 5, TTR: 6, Number: n, Body: make([]byte, size)}, fmt.Sprintf("put 4 5 6 %d", n))
		}
	}
	wantUnprinted(t, api.Cmd{Kind: 1, TTR: 1, Number: -1})
	wantUnprinted(t, api.Cmd{Kind: 1, TTR: 1, Number: maxNumber + 1})
	wantUnprinted(t, api.Cmd{Kind: 1, TTR: 0, Number: 1, Body: []byte("x")})
}

// P7.3, P7.4: only a put has a Body, and only some kinds have a Tube; one without bytes is none (R3).
func TestCheckAndPrintOtherFields(t *testing.T) {
	for kind := 1; kind <= 25; kind++ {
		c, words := plain(kind)
		line := strings.Join(words, " ")
		if kind != api.CmdPut {
			for _, size := range []int{1, 2, maxBody} {
				c.Body = make([]byte, size)
				wantWrong(t, c)
			}
			for _, body := range [][]byte{nil, {}, make([]byte, 0, 9)} {
				c.Body = body
				wantRight(t, c, line)
			}
		}
		if c.Tube == "" {
			for _, name := range []string{"a", "default", "-", " ", "\x00", strings.Repeat("a", 201)} {
				c.Tube = name
				wantWrong(t, c)
			}
		}
	}
	empty := api.Cmd{Kind: 1, TTR: 1}
	for _, body := range [][]byte{nil, {}, make([]byte, 0, 9)} {
		empty.Body = body
		wantRight(t, empty, "put 0 0 1 0")
	}
}

// someNumber is a number from 0 to most, an end of that more often than not.
func someNumber(r *rand.Rand, most int) int {
	switch r.Intn(4) {
	case 0:
		return 0
	case 1:
		return most
	case 2:
		return r.Intn(min(most, 1000) + 1)
	}
	return r.Intn(most + 1)
}

func someName(r *rand.Rand) string {
	const first = "abcxyzABCXYZ0189+/;.$_()"
	name := []byte{first[r.Intn(len(first))]}
	for n := []int{0, 1, 5, 199, r.Intn(200)}[r.Intn(5)]; n > 0; n-- {
		name = append(name, (first + "-")[r.Intn(len(first)+1)])
	}
	return string(name)
}

// someCommand is one that has a line; of a put the Number need not be that of the Body.
func someCommand(r *rand.Rand) api.Cmd {
	c := api.Cmd{Kind: 1 + r.Intn(25)}
	for _, place := range behindVerb(c.Kind) {
		if place == "TUBE" {
			c.Tube = someName(r)
		} else {
			*holds(&c, place) = someNumber(r, mostOf(place))
		}
	}
	if c.Kind == api.CmdPut {
		c.TTR = max(c.TTR, 1)
		c.Body = make([]byte, r.Intn(20))
	}
	return c
}

// P7.5: Parse of what Print wrote is the command without its Body, and what it read is printed the same.
func TestPrintAndParse(t *testing.T) {
	r := rand.New(rand.NewSource(71))
	for range 20000 {
		c := someCommand(r)
		line, err := Print(c)
		if err != api.OK || line == "" {
			t.Fatalf("Print(%s) = %q, %d", show(c), line, err)
		}
		wantParsed(t, line, withoutBody(c))
		wantPrinted(t, withoutBody(c), line)
		// P7.6
		if len(line) > api.MaxLine-2 {
			t.Fatalf("Print(%s) has %d bytes", show(c), len(line))
		}
	}
}

// P7.5: the line that is written is the one that was read, but for zeros ahead, and a put's TTR 0.
func TestParseAndPrint(t *testing.T) {
	r := rand.New(rand.NewSource(75))
	for range 20000 {
		c := someCommand(r)
		read, written := table[c.Kind][0], table[c.Kind][0]
		for _, place := range behindVerb(c.Kind) {
			if place == "TUBE" {
				read, written = read+" "+c.Tube, written+" "+c.Tube
				continue
			}
			word := fmt.Sprint(*holds(&c, place))
			written += " " + word
			if place == "TTR" && word == "1" {
				word = fmt.Sprint(r.Intn(2))
			}
			read += " " + strings.Repeat("0", r.Intn(3)) + word
		}
		wantParsed(t, read, withoutBody(c))
		wantPrinted(t, withoutBody(c), written)
		wantParsed(t, written, withoutBody(c))
	}
}

// P7.6: the longest line of each kind, with its end, is a line for an intake; that of pause-tube has just MaxLine bytes.
func TestLongestLines(t *testing.T) {
	longest := 0
	for kind := 1; kind <= 25; kind++ {
		c := api.Cmd{Kind: kind}
		for _, place := range behindVerb(kind) {
			if place == "TUBE" {
				c.Tube = strings.Repeat("z", 200)
			} else {
				*holds(&c, place) = mostOf(place)
			}
		}
		line, err := Print(c)
		if err != api.OK || len(line) > 222 {
			t.Errorf("Print(%s) has %d bytes, %d", show(c), len(line), err)
		}
		longest = max(longest, len(line))
		in, _ := intake.New(1)
		in.Feed([]byte(line + "\r\n"))
		if x, ok := in.Next(); !ok || x.Kind != api.ItemLine || x.Text != line {
			t.Errorf("the line of %s comes in as %v, %v", show(c), x, ok)
		}
		wantParsed(t, line, c)
	}
	if longest != 222 {
		t.Errorf("the longest line has %d bytes; want 222", longest)
	}
}

// The bytes of names and numbers.
var (
	nameBytes  = regexp.MustCompile(`^[a-zA-Z0-9+/;.$_()][-a-zA-Z0-9+/;.$_()]*\z`)
	digitBytes = regexp.MustCompile(`^[0-9]+\z`)
)

func isName(text string) bool { return len(text) <= 200 && nameBytes.MatchString(text) }

// readPlainly reads a line by the chapter's words, with other means: expressions, and numbers of any size.
func readPlainly(line string) (api.Cmd, api.Errno) {
	words := strings.Split(line, " ")
	kind := 1
	for kind <= 25 && table[kind][0] != words[0] {
		kind++
	}
	if kind > 25 {
		return api.Cmd{}, api.ErrVerbUnknown
	}
	places := behindVerb(kind)
	if len(words) != 1+len(places) {
		return api.Cmd{}, api.ErrVerbForm
	}
	c := api.Cmd{Kind: kind}
	for i, place := range places {
		word := words[i+1]
		if place == "TUBE" {
			c.Tube = word
			if !isName(word) {
				return api.Cmd{}, api.ErrVerbForm
			}
			continue
		}
		n, _ := new(big.Int).SetString(word, 10)
		if !digitBytes.MatchString(word) || n.Cmp(big.NewInt(int64(mostOf(place)))) > 0 {
			return api.Cmd{}, api.ErrVerbForm
		}
		*holds(&c, place) = int(n.Int64())
	}
	if kind == api.CmdPut && c.TTR == 0 {
		c.TTR = 1
	}
	return c, api.OK
}

// P7.2, R1: right lines, some spoilt at a few places, are read as a plain reading says.
func TestParsePlays(t *testing.T) {
	r := rand.New(rand.NewSource(72))
	var told [3]int
	for range 20000 {
		line, _ := Print(someCommand(r))
		for n := r.Intn(3); n > 0; n-- {
			line = spoil(r, line)
		}
		want, code := readPlainly(line)
		if c, err := Parse(line); err != code || !same(c, want) {
			t.Fatalf("Parse(%q) = %s, %d; want %s, %d", line, show(c), err, show(want), code)
		}
		told[max(0, int(code)-69)]++
	}
	for i, n := range told {
		if n < 1000 {
			t.Errorf("only %d lines of the sort %d", n, i)
		}
	}
}

// spoil puts in, takes out or changes something of a line.
func spoil(r *rand.Rand, line string) string {
	at := r.Intn(len(line) + 1)
	piece := []string{" ", "0", "9", "a", "-", "\r", "\xff", "é", " 1", "  ", "4294967295", string(rune(r.Intn(256)))}[r.Intn(12)]
	switch r.Intn(4) {
	case 0:
		return line[:at] + piece + line[at:]
	case 1:
		return line[:at] + line[min(at+1, len(line)):]
	case 2:
		return line[:at] + piece + line[min(at+1, len(line)):]
	}
	words := strings.Split(line, " ")
	i := r.Intn(len(words))
	switch r.Intn(3) {
	case 0:
		words = slices.Delete(words, i, i+1)
	case 1:
		words = slices.Insert(words, i, words[r.Intn(len(words))])
	default:
		words[i] = piece
	}
	return strings.Join(words, " ")
}

// mayBeDone says by the chapter's words whether a command may be done; of a line alone it lets a put's body be.
func mayBeDone(c api.Cmd, lineAlone bool) bool {
	if c.Kind < 1 || c.Kind > 25 {
		return false
	}
	rest := c
	rest.Kind = 0
	for _, place := range behindVerb(c.Kind) {
		if place == "TUBE" {
			if !isName(c.Tube) {
				return false
			}
			rest.Tube = ""
			continue
		}
		n := *holds(&c, place)
		if n < 0 || n > mostOf(place) || place == "TTR" && n < 1 {
			return false
		}
		*holds(&rest, place) = 0
	}
	if c.Kind == api.CmdPut {
		rest.Body = nil
		if !lineAlone && (c.Number > maxBody || len(c.Body) != c.Number) {
			return false
		}
	}
	return same(rest, api.Cmd{})
}

// P7.3, P7.4, R1: commands with a few fields changed are taken and refused as a plain reading says.
func TestCheckPlays(t *testing.T) {
	r := rand.New(rand.NewSource(73))
	numbers := []int{math.MinInt, -1, 0, 0, 0, 1, 2, 5, maxBody, maxBody + 1, maxNumber, maxNumber + 1, maxWord, maxWord + 1, math.MaxInt}
	taken, refused := 0, 0
	for range 20000 {
		c := someCommand(r)
		if c.Kind == api.CmdPut && r.Intn(2) == 0 {
			c.Number = len(c.Body)
		}
		for n := r.Intn(3); n > 0; n-- {
			number := numbers[r.Intn(len(numbers))]
			switch r.Intn(8) {
			case 0:
				c.Kind = r.Intn(29) - 2
			case 1:
				c.Body = make([]byte, r.Intn(3))
			case 2:
				c.Tube = []string{"", "a", "-a", strings.Repeat("a", 200), strings.Repeat("a", 201)}[r.Intn(5)]
			default:
				*holds(&c, []string{"ID", "PRI", "DELAY", "TTR", "BYTES"}[r.Intn(5)]) = number
			}
		}
		done := mayBeDone(c, false)
		if (Check(c) == api.OK) != done || !done && Check(c) != api.ErrVerbCmd {
			t.Fatalf("Check(%s) = %d; want it taken: %v", show(c), Check(c), done)
		}
		if done {
			taken++
		} else {
			refused++
		}
		if !mayBeDone(c, true) {
			wantUnprinted(t, c)
			continue
		}
		line, err := Print(c)
		if read, code := readPlainly(line); err != api.OK || code != api.OK || !same(read, withoutBody(c)) {
			t.Fatalf("Print(%s) = %q, %d", show(c), line, err)
		}
	}
	if taken < 1000 || refused < 1000 {
		t.Errorf("%d taken, %d refused", taken, refused)
	}
}

// R4: a tube that was told is new memory, and no piece of the line.
func TestParseKeepsNoLine(t *testing.T) {
	for _, text := range []string{"use mail", "watch mail", "ignore mail", "stats-tube mail", "pause-tube mail 7"} {
		b := []byte(text)
		c, err := Parse(unsafe.String(&b[0], len(b)))
		for i := range b {
			b[i] = 'x'
		}
		if err != api.OK || c.Tube != "mail" {
			t.Errorf("Parse(%q): the tube is %q behind a change of the line, %d", text, c.Tube, err)
		}
	}
}

// R4: a command that is asked about stays as it is, and the spare room behind its body too; no answer shares its memory.
func TestCheckAndPrintChangeNothing(t *testing.T) {
	room := []byte("abcdefgh")
	tube := []byte("mail")
	put := api.Cmd{Kind: 1, Pri: 1, Delay: 2, TTR: 3, Number: 4, Body: room[:4]}
	use := api.Cmd{Kind: 2, Tube: unsafe.String(&tube[0], len(tube))}
	line, _ := Print(use)
	for _, c := range []api.Cmd{put, use} {
		Check(c)
		Print(c)
	}
	if string(room) != "abcdefgh" || string(tube) != "mail" {
		t.Errorf("changed to %q, %q", room, tube)
	}
	copy(tube, "xxxx")
	if line != "use mail" {
		t.Errorf("the line is %q behind a change of the tube", line)
	}
}

// R5: calls leave nothing behind that a later one shows.
func TestCallsForgetEachOther(t *testing.T) {
	for range 3 {
		wantParsed(t, "put 1 2 3 4", api.Cmd{Kind: 1, Pri: 1, Delay: 2, TTR: 3, Number: 4})
		wantUnread(t, "put 1 2 3 x", api.ErrVerbForm)
		wantParsed(t, "stats", api.Cmd{Kind: 20})
		wantPrinted(t, api.Cmd{Kind: 8, Id: 9}, "bury 9 0")
		wantUnprinted(t, api.Cmd{Kind: 8, Id: -9})
	}
}

// R1: lines of great size are read in time and without laying down each of their words.
func TestGreatLines(t *testing.T) {
	const size = 1 << 23
	lines := []struct {
		text string
		want api.Errno
	}{
		{"reserve" + strings.Repeat(" a", size/2), api.ErrVerbForm},
		{"put " + strings.Repeat(" ", size), api.ErrVerbForm},
		{strings.Repeat("a", size), api.ErrVerbUnknown},
		{strings.Repeat(" ", size), api.ErrVerbUnknown},
		{"use " + strings.Repeat("a", size), api.ErrVerbForm},
		{"delete " + strings.Repeat("9", size), api.ErrVerbForm},
		{"delete " + strings.Repeat("0", size), api.OK},
	}
	var before, after runtime.MemStats
	runtime.ReadMemStats(&before)
	start := time.Now()
	for _, l := range lines {
		if _, err := Parse(l.text); err != l.want {
			t.Errorf("Parse(%.20q) = %d; want %d", l.text, err, l.want)
		}
	}
	runtime.ReadMemStats(&after)
	if took := time.Since(start); took > 20*time.Second {
		t.Errorf("it took %v", took)
	}
	if laid := after.TotalAlloc - before.TotalAlloc; laid > size {
		t.Errorf("%d bytes of memory for lines of %d", laid, size)
	}
}
