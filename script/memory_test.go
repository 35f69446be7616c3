package script

import (
	"bytes"
	"fmt"
	"runtime"
	"slices"
	"strings"
	"sync"
	"testing"
	"time"
	"unsafe"

	"stint/api"
)

const several = head + "feed 1 =abc break 1 keep 1 2 3\nfeed 2 =abcd break 2 keep 4\ncrash keep 5 6 7 8 9\ncrash keep 1\nfeed 3 =\nopen 1\n"

func severalPlay() api.Play {
	return play(broken(feed(1, "abc"), 1, 1, 2, 3), broken(feed(2, "abcd"), 2, 4), crash(5, 6, 7, 8, 9), crash(1), feed(3, ""), open(1))
}

// overwrite writes over a list and its spare room.
func overwrite[T any](list []T, x T) {
	list = list[:cap(list)]
	for i := range list {
		list[i] = x
	}
}

// R4: what was read is no piece of the text.
func TestParseKeepsNoText(t *testing.T) {
	b := []byte(several)
	p, _, err := Parse(unsafe.String(&b[0], len(b)))
	if string(b) != several {
		t.Errorf("the text is %q behind its reading", b)
	}
	overwrite(b, 'x')
	if err != api.OK || !same(p, severalPlay()) {
		t.Errorf("the play changed with the text: %s", show(p))
	}
}

// R4: whatever is written into one list of an answer, or into its spare room, no other list of it and no other answer shows it.
func TestParsedIsNew(t *testing.T) {
	for changed := range severalPlay().Steps {
		for _, keeps := range []bool{false, true} {
			p, _, _ := Parse(several)
			other, _, _ := Parse(several)
			want := severalPlay()
			if keeps {
				overwrite(p.Steps[changed].Keep, -1)
				overwrite(want.Steps[changed].Keep, -1)
			} else {
				overwrite(p.Steps[changed].Data, 'X')
				overwrite(want.Steps[changed].Data, 'X')
			}
			if !same(p, want) {
				t.Errorf("writing into a list of step %d changed another one: %s", changed, show(p))
			}
			if !same(other, severalPlay()) {
				t.Errorf("writing into a list of step %d changed another answer: %s", changed, show(other))
			}
			wantParsed(t, several, severalPlay())
		}
	}
	p, _, _ := Parse(several)
	other, _, _ := Parse(several)
	overwrite(p.Steps, api.Step{})
	if !same(other, severalPlay()) {
		t.Errorf("writing into the steps changed another answer: %s", show(other))
	}
	wantParsed(t, several, severalPlay())
}

// R4: what is handed in to Print is not changed, nor the spare room behind its lists.
func TestPrintChangesNothing(t *testing.T) {
	data := []byte("abcdefgh")
	keep := []int{1, 2, 3, 4}
	steps := []api.Step{{Kind: api.StFeed, Conn: 1, Data: data[:3], Break: 1, Keep: keep[:2]}, {Kind: api.StCrash, Keep: keep[1:3]}, {Kind: 99}, {Kind: 98}}
	wantPrinted(t, play(steps[:2]...), head+"feed 1 =abc break 1 keep 1 2\ncrash keep 2 3\n")
	wantUnprinted(t, play(steps[:3]...), api.ErrScriptField)
	if string(data) != "abcdefgh" || !slices.Equal(keep, []int{1, 2, 3, 4}) || steps[2].Kind != 99 || steps[3].Kind != 98 ||
		!sameStep(steps[0], api.Step{Kind: api.StFeed, Conn: 1, Data: []byte("abc"), Break: 1, Keep: []int{1, 2}}) || !sameStep(steps[1], crash(2, 3)) {
		t.Errorf("changed to %q, %v, %v", data, keep, steps)
	}
}

// R4: a text that was written is no piece of the play.
func TestPrintedIsNew(t *testing.T) {
	p := severalPlay()
	text, err := Print(p)
	for _, s := range p.Steps {
		overwrite(s.Data, 'X')
		overwrite(s.Keep, 0)
	}
	if text != several || err != api.OK {
		t.Errorf("the text changed with the play: %q, %d", text, err)
	}
}

// R5: a call's answer hangs on no other call, also not on one that was given up, or that runs at the same time.
func TestCallsForgetEachOther(t *testing.T) {
	var all sync.WaitGroup
	for range 4 {
		all.Go(func() {
			for range 200 {
				wantParsed(t, several, severalPlay())
				wantUnread(t, several+"open 1 =\n", 8, api.ErrScriptField)
				wantUnread(t, "\n"+several+"x\n", 9, api.ErrScriptWord)
				wantUnread(t, "tick\n", 1, api.ErrScriptWord)
				wantUnread(t, "stint 1 1 1\n", 1, api.ErrScriptConfig)
				wantPrinted(t, severalPlay(), several)
				wantUnprinted(t, play(tick(), open(-1)), api.ErrScriptField)
				wantUnprinted(t, api.Play{}, api.ErrScriptConfig)
				wantPrinted(t, play(), head)
			}
		})
	}
	all.Wait()
}

// laid tells how many bytes of memory a call lays down.
func laid(f func()) int {
	var before, after runtime.MemStats
	runtime.ReadMemStats(&before)
	f()
	runtime.ReadMemStats(&after)
	return int(after.TotalAlloc - before.TotalAlloc)
}

// R1: great texts, right and wrong ones, are read in a time that grows with their size alone.
func TestGreatTexts(t *testing.T) {
	begun := time.Now()
	fill := func(beginning, piece string) string {
		return beginning + strings.Repeat(piece, (maxPlay-len(beginning))/len(piece))
	}
	for _, k := range []struct {
		beginning, piece string
		line             int
		want             api.Errno
	}{
		{"", "\n", 0, api.ErrScriptWord}, {"", "#\n", 0, api.ErrScriptWord}, {"", "#", 0, api.ErrScriptWord}, {"", " ", 1, api.ErrScriptWord}, {"", "\x00", 1, api.ErrScriptWord}, {"", "a ", 1, api.ErrScriptWord},
		{"stint", " 1", 1, api.ErrScriptField}, {"stint 1 128 ", "9", 1, api.ErrScriptField}, {"stint 1 128 ", "0", 1, api.ErrScriptConfig},
		{head, "\n", 0, api.OK}, {head, "# tick\n", 0, api.OK}, {head, "tick\n", maxSteps + 2, api.ErrScriptMany}, {head, "crash keep 1\n", maxSteps + 2, api.ErrScriptMany}, {head, "ticks\n", 2, api.ErrScriptWord},
		{head + "feed 1 =", "a", 0, api.OK}, {head + "feed 1 =", `\x00`, 0, api.OK}, {head + "feed 1 =", `\s`, 0, api.OK}, {head + "feed 1 =", `\\`, 0, api.OK}, {head + `feed 1 =\`, `\\`, 2, api.ErrScriptField}, {head + "feed 1 =", "=a ", 2, api.ErrScriptWord},
		{head + "crash keep", " 1", 0, api.OK}, {head + "tick break 1 keep", " 007", 0, api.OK}, {head + "tick break 1", " keep", 2, api.ErrScriptField}, {head + "tick", " 1", 2, api.ErrScriptField},
		{head + "open ", "0", 0, api.OK}, {head + "open ", "9", 2, api.ErrScriptField}, {head + "tick break ", "0", 2, api.ErrScriptField},
	} {
		text := fill(k.beginning, k.piece)
		p, line, err := Parse(text)
		if line != k.line || err != k.want || err != api.OK && !same(p, api.Play{}) {
			t.Errorf("Parse(%.60q) = %s, %d, %d; want %d, %d", text, show(p), line, err, k.line, k.want)
		}
		if err != api.OK {
			continue
		}
		written, err := Print(p)
		if again, _, _ := Parse(written); err != api.OK && len(text) < maxPlay || err == api.OK && !same(again, p) {
			t.Errorf("Print of what Parse(%.60q) told: %.60q, %d", text, written, err)
		}
	}
	if spent := time.Since(begun); spent > 30*time.Second {
		t.Errorf("it took %v", spent)
	}
}

// R1: a play that is far too great is refused without laying down its text.
func TestGreatPlays(t *testing.T) {
	begun := time.Now()
	const size = 1 << 26
	data, keep := bytes.Repeat([]byte{0}, size), make([]int, size/4)
	many := slices.Repeat([]api.Step{feed(1, "")}, maxSteps)
	for i := range many {
		many[i].Data = data
	}
	for i, p := range []api.Play{play(api.Step{Kind: api.StFeed, Data: data}), play(crash(keep...)), play(broken(start(), 1, keep...)), play(many...)} {
		used := laid(func() { wantUnprinted(t, p, api.ErrScriptLong) })
		if used > 16*maxPlay {
			t.Errorf("play %d: %d bytes of memory", i, used)
		}
	}
	keep[len(keep)-1] = -1
	if used := laid(func() { wantUnprinted(t, play(crash(keep...)), api.ErrScriptField) }); used > maxPlay {
		t.Errorf("%d bytes of memory for a wrong keep", used)
	}
	text := strings.Repeat("tick\n", size/5)
	if used := laid(func() { wantUnread(t, text, 0, api.ErrScriptLong) }); used > maxPlay {
		t.Errorf("%d bytes of memory for a text that is too long", used)
	}
	if spent := time.Since(begun); spent > 30*time.Second {
		t.Errorf("it took %v", spent)
	}
}

// R1: the greatest plays that may be written, each read back.
func TestGreatestPlays(t *testing.T) {
	var steps []api.Step
	for i := range maxSteps {
		steps = append(steps, broken(feed(i, fmt.Sprintf("put %d\r\n%0150d", i, i)), i+1, i, maxWord))
	}
	p := play(steps...)
	text, err := Print(p)
	if err != api.OK || len(text) < maxPlay/2 {
		t.Fatalf("Print: %d bytes, %d", len(text), err)
	}
	wantParsed(t, text, p)
}
