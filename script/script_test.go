package script

import (
	"bytes"
	"fmt"
	"math"
	"slices"
	"strings"
	"testing"

	"stint/api"
)

const (
	maxWord  = 4611686018427387903
	maxPlay  = 1048576
	maxSteps = 4000
	head     = "stint 100 256 4096\n"
)

var small = api.Config{JobMax: 100, Segment: 256, Quota: 4096}

func play(steps ...api.Step) api.Play { return api.Play{Config: small, Steps: steps} }

func open(conn int) api.Step { return api.Step{Kind: api.StOpen, Conn: conn} }
func feed(conn int, data string) api.Step {
	return api.Step{Kind: api.StFeed, Conn: conn, Data: []byte(data)}
}
func hang(conn int) api.Step     { return api.Step{Kind: api.StHang, Conn: conn} }
func tick() api.Step             { return api.Step{Kind: api.StTick} }
func drain() api.Step            { return api.Step{Kind: api.StDrain} }
func crash(keep ...int) api.Step { return api.Step{Kind: api.StCrash, Keep: keep} }
func start() api.Step            { return api.Step{Kind: api.StStart} }

// broken is the step with a break.
func broken(s api.Step, at int, keep ...int) api.Step {
	s.Break, s.Keep = at, keep
	return s
}

func sameStep(a, b api.Step) bool {
	return a.Kind == b.Kind && a.Conn == b.Conn && bytes.Equal(a.Data, b.Data) && a.Break == b.Break && slices.Equal(a.Keep, b.Keep)
}

// same holds two plays against each other; a nil list is an empty one.
func same(a, b api.Play) bool {
	return a.Config == b.Config && slices.EqualFunc(a.Steps, b.Steps, sameStep)
}

func show(p api.Play) string {
	return fmt.Sprintf("{%v, %d steps: %.300s}", p.Config, len(p.Steps), fmt.Sprint(p.Steps[:min(9, len(p.Steps))]))
}

func wantParsed(t *testing.T, text string, want api.Play) {
	t.Helper()
	if p, line, err := Parse(text); line != 0 || err != api.OK || !same(p, want) {
		t.Errorf("Parse(%.120q) = %s, %d, %d; want %s, 0, 0", text, show(p), line, err, show(want))
	}
}

func wantUnread(t *testing.T, text string, line int, want api.Errno) {
	t.Helper()
	if p, at, err := Parse(text); at != line || err != want || !same(p, api.Play{}) {
		t.Errorf("Parse(%.120q) = %s, %d, %d; want none, %d, %d", text, show(p), at, err, line, want)
	}
}

func wantPrinted(t *testing.T, p api.Play, want string) {
	t.Helper()
	if text, err := Print(p); text != want || err != api.OK {
		t.Errorf("Print(%s) = %.120q of %d, %d; want %.120q of %d, 0", show(p), text, len(text), err, want, len(want))
	}
}

func wantUnprinted(t *testing.T, p api.Play, want api.Errno) {
	t.Helper()
	if text, err := Print(p); text != "" || err != want {
		t.Errorf("Print(%s) = %.120q of %d, %d; want none, %d", show(p), text, len(text), err, want)
	}
}

// wantBoth: the text is read as the play, and that is written as the text.
func wantBoth(t *testing.T, text string, p api.Play) {
	t.Helper()
	wantParsed(t, text, p)
	wantPrinted(t, p, text)
}

// wantWrongStep: a line behind the head is refused.
func wantWrongStep(t *testing.T, line string, want api.Errno) {
	t.Helper()
	wantUnread(t, head+line+"\n", 2, want)
}

// The chapter's examples.
func TestExamples(t *testing.T) {
	steps := "open 1\nfeed 1 =put\\s0\\s0\\s1\\s1\\r\\nx\\r\\n break 3 keep 0 7\ntick\nstart\ncrash keep 5\n"
	want := play(open(1), broken(feed(1, "put 0 0 1 1\r\nx\r\n"), 3, 0, 7), tick(), start(), crash(5))
	wantParsed(t, head+"# one job, and the power goes when its record is laid\n"+steps, want)
	wantBoth(t, head+steps, want)

	wantUnread(t, "", 0, api.ErrScriptWord)
	wantUnread(t, "#\n", 0, api.ErrScriptWord)
	wantUnread(t, "open 1\n", 1, api.ErrScriptWord)
	wantParsed(t, "stint 100 256 4096", play())
	wantUnread(t, "stint 100 256\n", 1, api.ErrScriptField)
	wantUnread(t, "stint 0 256 4096\n", 1, api.ErrScriptConfig)
	wantUnread(t, head+head, 2, api.ErrScriptWord)
	for _, line := range []string{"tick  ", "Tick"} {
		wantWrongStep(t, line, api.ErrScriptWord)
	}
	for _, line := range []string{"tick 1", "tick break 0", "tick break 1 keep", "feed 1", "feed 1 x", `feed 1 =\q`, `feed 1 =\x4`, `feed 1 =\x4A`} {
		wantWrongStep(t, line, api.ErrScriptField)
	}
	wantParsed(t, head+`feed 1 =\x41\x0d`+"\n", play(feed(1, "A\r")))
	wantPrinted(t, play(feed(1, "A\r")), head+`feed 1 =A\r`+"\n")
	for _, s := range []api.Step{{Kind: api.StTick, Conn: 1}, {Kind: api.StTick, Keep: []int{5}}, {Kind: api.StOpen, Conn: -1}} {
		wantUnprinted(t, play(s), api.ErrScriptField)
	}
}

// The numbers that the chapter and DOC.md name.
func TestNumbers(t *testing.T) {
	errors := []api.Errno{api.ErrScriptConfig, api.ErrScriptWord, api.ErrScriptField, api.ErrScriptLong, api.ErrScriptMany}
	if !slices.Equal(errors, []api.Errno{190, 191, 192, 193, 194}) {
		t.Errorf("the errors are %v", errors)
	}
	if api.MaxWord != maxWord || api.MaxPlay != maxPlay || api.MaxSteps != maxSteps {
		t.Errorf("the limits are %d, %d, %d", api.MaxWord, api.MaxPlay, api.MaxSteps)
	}
}

// P19.1, P19.2: each line of the table, with each break and keep that it may have.
func TestEachStep(t *testing.T) {
	wantBoth(t, head, play())
	wantBoth(t, head+"open 0\n", play(open(0)))
	wantBoth(t, head+"open 63\n", play(open(63)))
	wantBoth(t, head+"feed 0 =\n", play(feed(0, "")))
	wantBoth(t, head+"feed 7 =a=b\n", play(feed(7, "a=b")))
	wantBoth(t, head+"hang 7\n", play(hang(7)))
	wantBoth(t, head+"tick\n", play(tick()))
	wantBoth(t, head+"drain\n", play(drain()))
	wantBoth(t, head+"crash\n", play(crash()))
	wantBoth(t, head+"crash keep 0\n", play(crash(0)))
	wantBoth(t, head+"crash keep 3 0 3\n", play(crash(3, 0, 3)))
	wantBoth(t, head+"start\n", play(start()))
	for _, k := range []struct {
		line string
		step api.Step
	}{
		{"feed 7 =", feed(7, "")}, {"feed 0 =break", feed(0, "break")}, {"hang 7", hang(7)}, {"tick", tick()}, {"start", start()},
	} {
		wantBoth(t, head+k.line+" break 1\n", play(broken(k.step, 1)))
		wantBoth(t, head+k.line+" break 99 keep 0\n", play(broken(k.step, 99, 0)))
		wantBoth(t, head+k.line+" break 2 keep 5 4 5\n", play(broken(k.step, 2, 5, 4, 5)))
	}
}

// P19.1: the steps stand in the order of their lines, each by itself.
func TestManySteps(t *testing.T) {
	wantBoth(t, head+"start break 2 keep 1\nstart\ncrash keep 2\ncrash\nfeed 1 =a\nfeed 2 =\nhang 1 break 1\nhang 1\ntick\ntick\nopen 2\nopen 1\ndrain\n",
		play(broken(start(), 2, 1), start(), crash(2), crash(), feed(1, "a"), feed(2, ""), broken(hang(1), 1), hang(1), tick(), tick(), open(2), open(1), drain()))
}

// P19.1: a text is cut into lines at its line feeds alone, and what stands behind the last one is a line unless it is empty.
func TestLines(t *testing.T) {
	wantParsed(t, head+"tick\ntick", play(tick(), tick()))
	wantParsed(t, head+"tick\ntick\n", play(tick(), tick()))
	wantUnread(t, head+"tick\ntic", 3, api.ErrScriptWord)
	wantUnread(t, "tick", 1, api.ErrScriptWord)
	wantUnread(t, "stint", 1, api.ErrScriptField)
	for _, other := range []string{"\r\n", "\r", "\v", "\f", "\x85", "\u2028", "\x00"} {
		wantUnread(t, "stint 100 256 4096"+other, 1, api.ErrScriptWord)
		wantUnread(t, head+"tick"+other+"tick\n", 2, api.ErrScriptWord)
	}
}

// P19.1: lines without a byte and remarks are passed over, wherever they stand, and counted.
func TestPassedOver(t *testing.T) {
	for _, over := range []string{"\n", "\n\n", "#\n", "# \n", "##\n", "#tick\n", "# stint 1 2 3\n", "#\r\n", "#\x00\xff é  \t\n", "#a\n\n#b\n"} {
		wantParsed(t, over+head+over+"tick\n"+over+"drain\n"+over, play(tick(), drain()))
		count := strings.Count(over, "\n")
		wantUnread(t, over, 0, api.ErrScriptWord)
		wantUnread(t, over+"tick\n", count+1, api.ErrScriptWord)
		wantUnread(t, over+"stint 1\n", count+1, api.ErrScriptField)
		wantUnread(t, over+"stint 1 1 1\n", count+1, api.ErrScriptConfig)
		wantUnread(t, over+head+over+"tick\n"+over+"drain 1\n"+over, 3*count+3, api.ErrScriptField)
	}
	wantParsed(t, head+"#", play())
	wantUnread(t, "\n\n\n", 0, api.ErrScriptWord)
	for _, line := range []string{" ", " #", " tick", "\t#", "\r", "tick #", "\x00", "é"} {
		want := api.ErrScriptWord
		if line == "tick #" {
			want = api.ErrScriptField
		}
		wantWrongStep(t, line, want)
	}
}

// P19.1: of the bytes that a line may begin with, # alone has it passed over.
func TestFirstBytes(t *testing.T) {
	for c := range 256 {
		line := string([]byte{byte(c)})
		switch line {
		case "#", "\n":
			wantParsed(t, head+line+"\n", play())
		default:
			wantWrongStep(t, line, api.ErrScriptWord)
			wantUnread(t, line+"\n"+head, 1, api.ErrScriptWord)
		}
	}
}

// P19.1: the first line that is not passed over has the head's word, and no other one has it.
func TestHeadWord(t *testing.T) {
	for _, word := range []string{"Stint", "STINT", "stin", "stints", "stint=", "open", "feed", "hang", "tick", "drain", "crash", "start", "break", "keep", "100"} {
		wantUnread(t, word+" 100 256 4096\n", 1, api.ErrScriptWord)
		wantUnread(t, "#\n"+word+"\n"+head, 2, api.ErrScriptWord)
	}
	for _, line := range []string{"stint", "stint 1", "stint x y z", "stint 0 0 0", "stint 100 256 4096"} {
		wantWrongStep(t, line, api.ErrScriptWord)
		wantUnread(t, head+"tick\n"+line, 3, api.ErrScriptWord)
	}
}

// P19.1: a line that Split refuses is wrong by that, whatever its words are.
func TestSplitLines(t *testing.T) {
	for _, line := range []string{" stint 100 256 4096", "stint 100 256 4096 ", "stint  100 256 4096", "stint 100 256\t4096", "stint 100 256 4096\r", "stint 100 256 409\xff", "stint\x7f 1", " ", "open  1"} {
		wantUnread(t, line, 1, api.ErrScriptWord)
	}
	for _, line := range []string{" tick", "tick ", "tick  break 1", "tick\tbreak 1", "feed 1 =é", "feed 1 =\x7f", "feed 1 =\x1f", "feed 1 = ", "feed 1 =a\r", "open 1 ", "open  ", "crash keep 1  2", "drain\x00"} {
		wantWrongStep(t, line, api.ErrScriptWord)
	}
}

// P19.1: the head has just three numbers, of any size that a number has; which of them may be is asked behind that.
func TestHeadFields(t *testing.T) {
	for _, rest := range []string{"", " 100", " 100 256", " 100 256 4096 1", " 100 256 4096 x", " x 256 4096", " 100 x 4096", " 100 256 x", " -1 256 4096", " +1 256 4096", " 1. 256 4096", " 0x1 256 4096",
		" 4611686018427387904 256 4096", " 100 4611686018427387904 4096", " 100 256 4611686018427387904", " 0 0", " 0 0 0 0", " 99999999999999999999 1 1", " 100 256 4096 keep 1"} {
		wantUnread(t, "stint"+rest+"\n", 1, api.ErrScriptField)
	}
	for _, rest := range []string{" 0 0 0", " 4611686018427387903 256 4096", " 100 4611686018427387903 4096", " 100 256 4611686018427387903",
		" 0 256 4096", " 65536 256 4096", " 100 127 4096", " 100 1048577 67108864", " 100 128 1023", " 100 256 67108865", " 100 257 1024", " 100 1025 4096"} {
		wantUnread(t, "stint"+rest+"\n", 1, api.ErrScriptConfig)
	}
	wantBoth(t, "stint 1 128 1024\n", api.Play{Config: api.Config{JobMax: 1, Segment: 128, Quota: 1024}})
	wantBoth(t, "stint 65535 1048576 67108864\n", api.Play{Config: api.Config{JobMax: 65535, Segment: 1048576, Quota: 67108864}})
	wantParsed(t, "stint 0100 00256 0000000000000000000000004096\n", play())
}

// P19.1: a later line's first word is one of the seven, to the letter.
func TestStepWords(t *testing.T) {
	for _, word := range []string{"Open", "OPEN", "ope", "opens", "feeds", "fee", "hung", "ticks", "tic", "drains", "crashed", "started", "star", "break", "keep", "1", "=", "=a", "\\", "!", "~", "opentick"} {
		for _, rest := range []string{"", " 1", " 1 =a", " x"} {
			wantWrongStep(t, word+rest, api.ErrScriptWord)
		}
	}
}

// P19.1: what stands behind a step's word is as the table wants it.
func TestStepFields(t *testing.T) {
	lines := []string{
		"open", "open x", "open =", "open 1 2", "open 1 =a", "open 1 break 1", "open 1 keep 1", "open break 1", "open -1", "open +1", "open 1a",
		"feed", "feed 1", "feed =a", "feed =a 1", "feed x =a", "feed 1 a", "feed 1 2 =a", "feed 1 =a =b", "feed 1 =a 2", "feed 1 =a keep 1", "feed 1 break 1", "feed 1 break 1 =a", "feed 1 =a break 1 =b",
		"hang", "hang x", "hang 1 2", "hang 1 =a", "hang 1 keep 1", "hang break 1", "hang 1 break 1 2",
		"tick 1", "tick =a", "tick keep", "tick keep 1", "tick x", "tick tick",
		"drain 1", "drain =a", "drain break 1", "drain keep 1", "drain drain",
		"crash 1", "crash 1 2", "crash break 1", "crash break 1 keep 1", "crash keep", "crash keep x", "crash keep 1 x", "crash keep 1 keep 2", "crash keep 1 break 1", "crash =a", "crash keep -1", "crash keep keep",
		"start 1", "start keep 1", "start =a", "start x",
	}
	for _, step := range []string{"feed 1 =a", "hang 1", "tick", "start"} {
		for _, end := range []string{"break", "break x", "break 0", "break 000", "break -1", "break 1 1", "break 1 x", "break 1 keep", "break 1 keep x", "break 1 keep 1 x", "break 1 keep -1", "break 1 break 1", "break 1 keep 1 break 1",
			"break 1 keep 1 keep 1", "break keep 1", "Break 1", "break 1 Keep 1", "break 1 Keep", "keep", "keep 1", "break1", "break 1 =a", "keep 1 break 1"} {
			lines = append(lines, step+" "+end)
		}
	}
	for _, line := range lines {
		wantWrongStep(t, line, api.ErrScriptField)
	}
}

// P19.1, P19.2: each number is 0 to MaxWord, a Break 1 to MaxWord; zeros ahead count for nothing.
func TestEdgesOfNumbers(t *testing.T) {
	places := []struct {
		line  string // with % where the number stands
		least int
		step  func(n int) api.Step
	}{
		{"open %", 0, open},
		{"feed % =a", 0, func(n int) api.Step { return feed(n, "a") }},
		{"hang %", 0, hang},
		{"feed 1 =a break %", 1, func(n int) api.Step { return broken(feed(1, "a"), n) }},
		{"hang 1 break %", 1, func(n int) api.Step { return broken(hang(1), n) }},
		{"tick break %", 1, func(n int) api.Step { return broken(tick(), n) }},
		{"start break %", 1, func(n int) api.Step { return broken(start(), n) }},
		{"feed 1 =a break 1 keep %", 0, func(n int) api.Step { return broken(feed(1, "a"), 1, n) }},
		{"hang 1 break 1 keep % 2", 0, func(n int) api.Step { return broken(hang(1), 1, n, 2) }},
		{"tick break 1 keep 1 2 %", 0, func(n int) api.Step { return broken(tick(), 1, 1, 2, n) }},
		{"start break 1 keep 1 %", 0, func(n int) api.Step { return broken(start(), 1, 1, n) }},
		{"crash keep %", 0, func(n int) api.Step { return crash(n) }},
		{"crash keep 1 % 3", 0, func(n int) api.Step { return crash(1, n, 3) }},
	}
	for _, p := range places {
		with := func(word string) string { return head + strings.ReplaceAll(p.line, "%", word) + "\n" }
		for _, n := range []int{p.least, p.least + 1, 9, 10, 64, 1 << 32, maxWord - 1, maxWord} {
			wantBoth(t, with(fmt.Sprint(n)), play(p.step(n)))
			wantParsed(t, with("000"+fmt.Sprint(n)), play(p.step(n)))
		}
		for _, word := range []string{"4611686018427387904", "9223372036854775807", "9223372036854775808", "18446744073709551616", "-0", "1e3", "0x1", "1_0", "\x22", "x"} {
			wantUnread(t, with(word), 2, api.ErrScriptField)
		}
		for _, n := range []int{math.MinInt, -2, -1, maxWord + 1, math.MaxInt} {
			wantUnprinted(t, play(p.step(n)), api.ErrScriptField)
		}
	}
}

// P19.1: of DATA each byte from 33 to 126 but the slash stands for itself.
func TestPlainBytes(t *testing.T) {
	for c := range 256 {
		line := "feed 1 =" + string([]byte{byte(c)})
		switch {
		case c == '\n':
			wantParsed(t, head+line, play(feed(1, "")))
		case c < 33 || c > 126:
			wantWrongStep(t, line, api.ErrScriptWord)
		case c == '\\':
			wantWrongStep(t, line, api.ErrScriptField)
		default:
			wantBoth(t, head+line+"\n", play(feed(1, string([]byte{byte(c)}))))
		}
	}
}

// P19.1: of what may stand behind a slash, four letters and x alone are right.
func TestSlashes(t *testing.T) {
	means := map[int]string{'s': " ", 'r': "\r", 'n': "\n", '\\': "\\"}
	for c := range 256 {
		line := "feed 1 =a\\" + string([]byte{byte(c)})
		want, is := means[c]
		switch {
		case is:
			wantBoth(t, head+line+"\n", play(feed(1, "a"+want)))
			wantBoth(t, head+line+line[8:]+"b\n", play(feed(1, "a"+want+"a"+want+"b")))
		case c == '\n' || c >= 33 && c <= 126:
			wantWrongStep(t, line, api.ErrScriptField)
		default:
			wantWrongStep(t, line, api.ErrScriptWord)
		}
	}
	for _, data := range []string{`=\`, `=a\`, `=\\\`, `=\x`, `=\x4`, `=\s\x0`, `=\x\s`, `=\xg0`, `=\x0g`, `=\x0G`, `=\xA0`, `=\x0A`, `=\X00`, `=\S`, `=\R`, `=\N`, `=\t`, `=\0`, `=\x-1`, `=\x+1`, `\x41`, `\s=`, `x=a`} {
		wantWrongStep(t, "feed 1 "+data, api.ErrScriptField)
	}
	wantParsed(t, head+`feed 1 =\\s\\x41\\\\\x5c\x20`+"\n", play(feed(1, `\s\x41\\\ `)))
	wantParsed(t, head+`feed 1 =\x414`+"\n", play(feed(1, "A4")))
}

// P19.1, P19.2: each byte in the form with two digits, and in its shortest one.
func TestEachByteBothWays(t *testing.T) {
	short := map[int]string{10: `\n`, 13: `\r`, 32: `\s`, 92: `\\`}
	var all []byte
	digits, shortest := "", ""
	for c := range 256 {
		all = append(all, byte(c))
		form := fmt.Sprintf(`\x%02x`, c)
		wantParsed(t, head+"feed 1 ="+form+"\n", play(feed(1, string([]byte{byte(c)}))))
		digits += form
		if c >= 33 && c <= 126 {
			form = string(rune(c))
		}
		if short[c] != "" {
			form = short[c]
		}
		wantBoth(t, head+"feed 1 ="+form+"\n", play(feed(1, string([]byte{byte(c)}))))
		shortest += form
	}
	wantParsed(t, head+"feed 1 ="+digits+"\n", play(feed(1, string(all))))
	wantBoth(t, head+"feed 1 ="+shortest+"\n", play(feed(1, string(all))))
}

// P19.1: all pairs of bytes behind \x; just those of two digits are a byte.
func TestHexPairs(t *testing.T) {
	const digits = "0123456789abcdef"
	for a := range 256 {
		for b := range 256 {
			pair := string([]byte{byte(a), byte(b)})
			if strings.ContainsAny(pair, " \n") {
				continue // they end the word
			}
			high, low := strings.IndexByte(digits, byte(a)), strings.IndexByte(digits, byte(b))
			switch {
			case high >= 0 && low >= 0:
				wantParsed(t, head+`feed 1 =\x`+pair, play(feed(1, string([]byte{byte(16*high + low)}))))
			case min(a, b) < 33 || max(a, b) > 126:
				wantWrongStep(t, `feed 1 =\x`+pair, api.ErrScriptWord)
			default:
				wantWrongStep(t, `feed 1 =\x`+pair, api.ErrScriptField)
			}
		}
	}
}

// P19.1: no more than MaxSteps steps; lines that are passed over, and the head, are none.
func TestParseMany(t *testing.T) {
	full := head + strings.Repeat("tick\n#\n", maxSteps)
	most := play(slices.Repeat([]api.Step{tick()}, maxSteps)...)
	wantParsed(t, full, most)
	wantParsed(t, full+"\n# tick\n", most)
	wantUnread(t, full+"tick", 2*maxSteps+2, api.ErrScriptMany)
	wantUnread(t, full+"\n\ndrain\n", 2*maxSteps+4, api.ErrScriptMany)
	// What is wrong of the line's words comes ahead of that, what is wrong behind the first one does not.
	wantUnread(t, full+"tick 1\n", 2*maxSteps+2, api.ErrScriptMany)
	wantUnread(t, full+"feed 1 =\\q\n", 2*maxSteps+2, api.ErrScriptMany)
	wantUnread(t, full+"ticks\n", 2*maxSteps+2, api.ErrScriptWord)
	wantUnread(t, full+"tick \n", 2*maxSteps+2, api.ErrScriptWord)
	wantUnread(t, full+head, 2*maxSteps+2, api.ErrScriptWord)
	wantUnread(t, head+strings.Repeat("tick\n", maxSteps-1)+"tick 1\ntick\n", maxSteps+1, api.ErrScriptField)
}

// P19.1: the first line that is wrong is told, whatever is wrong behind it.
func TestFirstWrongLine(t *testing.T) {
	wrong := []struct {
		line string
		want api.Errno
	}{{"tick 1", api.ErrScriptField}, {"ticks", api.ErrScriptWord}, {"tick ", api.ErrScriptWord}, {"stint 0 0 0", api.ErrScriptWord}, {"open", api.ErrScriptField}}
	for _, a := range wrong {
		for _, b := range wrong {
			wantUnread(t, head+"tick\n"+a.line+"\n"+b.line+"\n", 3, a.want)
			wantUnread(t, "stint 0 0 0\n"+a.line+"\n"+b.line+"\n", 1, api.ErrScriptConfig)
			wantUnread(t, "\nstint 0 0\n"+a.line+"\n"+b.line+"\n", 2, api.ErrScriptField)
		}
	}
}

// P19.1: a text has at most MaxPlay bytes; that comes ahead of all else.
func TestParseLong(t *testing.T) {
	fill := func(text string, size int) string { return text + strings.Repeat("#", size-len(text)) }
	wantParsed(t, fill(head+"tick\n", maxPlay), play(tick()))
	wantUnread(t, fill(head+"tick\n", maxPlay+1), 0, api.ErrScriptLong)
	wantUnread(t, fill("tick\n", maxPlay), 1, api.ErrScriptWord)
	wantUnread(t, fill("tick\n", maxPlay+1), 0, api.ErrScriptLong)
	wantUnread(t, fill("", maxPlay), 0, api.ErrScriptWord)
	wantUnread(t, fill("", maxPlay+1), 0, api.ErrScriptLong)
	wantParsed(t, head+"drain"+strings.Repeat("\n", maxPlay-len(head)-5), play(drain()))
	wantUnread(t, head+"drain"+strings.Repeat("\n", maxPlay-len(head)-4), 0, api.ErrScriptLong)
	wantUnread(t, strings.Repeat("\n", maxPlay-1)+"x", maxPlay, api.ErrScriptWord)
}

// P19.2: the config is asked first, then how many steps there are.
func TestPrintOrder(t *testing.T) {
	bad := api.Config{JobMax: 0, Segment: 256, Quota: 4096}
	steps := func(count int, s api.Step) []api.Step { return slices.Repeat([]api.Step{s}, count) }
	for _, count := range []int{0, 1, maxSteps, maxSteps + 1} {
		for _, s := range []api.Step{tick(), {}, feed(1, strings.Repeat("a", maxPlay))} {
			wantUnprinted(t, api.Play{Config: bad, Steps: steps(count, s)}, api.ErrScriptConfig)
			if count > maxSteps {
				wantUnprinted(t, play(steps(count, s)...), api.ErrScriptMany)
			}
		}
	}
	wantPrinted(t, play(steps(maxSteps, tick())...), head+strings.Repeat("tick\n", maxSteps))
	wantUnprinted(t, play(steps(10*maxSteps, tick())...), api.ErrScriptMany)
	for _, c := range []api.Config{{}, {JobMax: -1, Segment: 256, Quota: 4096}, {JobMax: 65536, Segment: 256, Quota: 4096}, {JobMax: 1, Segment: 127, Quota: 4096}, {JobMax: 1, Segment: 257, Quota: 1024},
		{JobMax: 1, Segment: 128, Quota: 1023}, {JobMax: 1, Segment: 128, Quota: 67108865}, {JobMax: math.MaxInt, Segment: math.MaxInt, Quota: math.MaxInt}, {JobMax: math.MinInt, Segment: math.MinInt, Quota: math.MinInt}} {
		wantUnprinted(t, api.Play{Config: c}, api.ErrScriptConfig)
	}
}

// P19.2: the kinds are 1 to 7.
func TestPrintKinds(t *testing.T) {
	for _, kind := range []int{math.MinInt, -7, -1, 0, 8, 9, 257, 1 << 32, 1<<32 + 1, math.MaxInt} {
		wantUnprinted(t, play(api.Step{Kind: kind}), api.ErrScriptField)
		wantUnprinted(t, play(tick(), api.Step{Kind: kind}, tick()), api.ErrScriptField)
	}
}

// P19.2: of each kind, fields that it has not are zero, and a Keep of a kind with a break has a Break.
func TestPrintFields(t *testing.T) {
	has := map[int]string{ // what a step of a kind may have beside zeros
		api.StOpen: "conn", api.StFeed: "conn data break", api.StHang: "conn break", api.StTick: "break", api.StDrain: "", api.StCrash: "keep", api.StStart: "break",
	}
	for kind := 1; kind <= 7; kind++ {
		can := func(field string) bool { return strings.Contains(has[kind], field) }
		for bits := range 16 {
			s := api.Step{Kind: kind}
			right := true
			if bits&1 > 0 {
				s.Conn = 3
				right = right && can("conn")
			}
			if bits&2 > 0 {
				s.Data = []byte("a")
				right = right && can("data")
			}
			if bits&4 > 0 {
				s.Break = 1
				right = right && can("break")
			}
			if bits&8 > 0 {
				s.Keep = []int{0}
				right = right && (can("keep") || can("break") && s.Break > 0)
			}
			if _, err := Print(play(s)); right && err != api.OK || !right && err != api.ErrScriptField {
				t.Errorf("Print of %v: %d; want it written: %v", s, err, right)
			}
			if !right {
				wantUnprinted(t, play(tick(), s), api.ErrScriptField)
			}
		}
		for _, n := range []int{math.MinInt, -1, maxWord + 1, math.MaxInt} {
			wantUnprinted(t, play(api.Step{Kind: kind, Conn: n}), api.ErrScriptField)
			wantUnprinted(t, play(api.Step{Kind: kind, Break: n}), api.ErrScriptField)
			wantUnprinted(t, play(api.Step{Kind: kind, Break: n, Keep: []int{1}}), api.ErrScriptField)
			wantUnprinted(t, play(api.Step{Kind: kind, Keep: []int{n}}), api.ErrScriptField)
			wantUnprinted(t, play(api.Step{Kind: kind, Break: 1, Keep: []int{1, n}}), api.ErrScriptField)
		}
	}
}

// R3: a nil list and an empty one are the same.
func TestNothing(t *testing.T) {
	none := []api.Step{{Kind: api.StOpen, Data: []byte{}, Keep: []int{}}, {Kind: api.StFeed, Data: []byte{}, Keep: []int{}}, {Kind: api.StHang, Data: []byte{}, Keep: []int{}}, {Kind: api.StTick, Data: []byte{}, Keep: []int{}},
		{Kind: api.StDrain, Data: []byte{}, Keep: []int{}}, {Kind: api.StCrash, Data: []byte{}, Keep: []int{}}, {Kind: api.StStart, Data: []byte{}, Break: 1, Keep: []int{}}}
	wantPrinted(t, play(none...), head+"open 0\nfeed 0 =\nhang 0\ntick\ndrain\ncrash\nstart break 1\n")
	wantPrinted(t, api.Play{Config: small, Steps: []api.Step{}}, head)
}

// P19.2: the text has at most MaxPlay bytes, the line feeds counted, whatever it is that makes it longer.
func TestPrintLong(t *testing.T) {
	// long is a play whose text has so many bytes, the last of its steps with a line of the given end.
	long := func(size int, last api.Step, line string) (api.Play, string) {
		fill := size - len(head) - len("feed 1 =\n") - len(line)
		return play(feed(1, strings.Repeat("a", fill)), last), head + "feed 1 =" + strings.Repeat("a", fill) + "\n" + line
	}
	for _, k := range []struct {
		step api.Step
		line string
	}{
		{tick(), "tick\n"}, {open(1), "open 1\n"}, {feed(12, "\x00"), "feed 12 =\\x00\n"}, {feed(1, ""), "feed 1 =\n"}, {feed(1, "abc d"), "feed 1 =abc\\sd\n"}, {crash(1, 22), "crash keep 1 22\n"},
		{crash(), "crash\n"}, {broken(start(), 10), "start break 10\n"}, {broken(hang(1), 10, 5), "hang 1 break 10 keep 5\n"}, {drain(), "drain\n"},
	} {
		for over := range len(k.line) + 3 {
			p, text := long(maxPlay+over, k.step, k.line)
			if over == 0 {
				wantBoth(t, text, p)
				wantUnprinted(t, play(append(p.Steps, tick())...), api.ErrScriptLong)
			} else {
				wantUnprinted(t, p, api.ErrScriptLong)
			}
		}
		p, text := long(maxPlay-1, k.step, k.line)
		wantBoth(t, text, p)
	}
	one := func(size int) api.Play { return play(feed(1, strings.Repeat("a", size-len(head)-len("feed 1 =\n")))) }
	wantPrinted(t, one(maxPlay), head+"feed 1 ="+strings.Repeat("a", maxPlay-len(head)-9)+"\n")
	wantUnprinted(t, one(maxPlay+1), api.ErrScriptLong)
	wantUnprinted(t, one(3*maxPlay), api.ErrScriptLong)
	wantUnprinted(t, play(feed(1, strings.Repeat("\x00", maxPlay/4))), api.ErrScriptLong)
	wantUnprinted(t, play(crash(make([]int, maxPlay/2)...)), api.ErrScriptLong)
}

// P19.2: steps are asked one behind the other; of one step a wrong field comes ahead of its length.
func TestPrintFirstError(t *testing.T) {
	great := strings.Repeat("a", maxPlay)
	long, wrong := feed(1, great), api.Step{Kind: 9}
	both := []api.Step{feed(-1, great), broken(feed(1, great), 0, 1), broken(feed(1, great), -1), broken(feed(1, great), 1, -1), {Kind: 9, Data: []byte(great)}, {Kind: api.StTick, Data: []byte(great)},
		broken(tick(), 1, append(make([]int, maxPlay), -1)...), broken(tick(), 0, make([]int, maxPlay)...)}
	wantUnprinted(t, play(tick(), long, wrong), api.ErrScriptLong)
	wantUnprinted(t, play(tick(), wrong, long), api.ErrScriptField)
	for _, s := range both {
		wantUnprinted(t, play(s), api.ErrScriptField)
		wantUnprinted(t, play(tick(), s, long), api.ErrScriptField)
		wantUnprinted(t, play(tick(), long, s), api.ErrScriptLong)
	}
}
