package script

import (
	"fmt"
	"math"
	"math/rand"
	"slices"
	"strings"
	"testing"

	"stint/api"
)

// wantAsPlain: a text is read as a plain reading says; it tells the error.
func wantAsPlain(t *testing.T, text string) api.Errno {
	t.Helper()
	want, at, code := readPlainly(text)
	p, line, err := Parse(text)
	if err != code || line != at || !same(p, want) {
		t.Fatalf("Parse(%.300q) = %s, %d, %d; want %s, %d, %d", text, show(p), line, err, show(want), at, code)
	}
	return code
}

// P19.1: all lines of up to six of these words, and of a feed up to seven.
func TestAllShortLines(t *testing.T) {
	steps := []string{"open", "feed", "hang", "tick", "drain", "crash", "start", "stint", "keep"}
	rest := []string{"0", "1", "=a", "break", "keep", "x"}
	told := map[api.Errno]int{}
	var try func(line string, left int)
	try = func(line string, left int) {
		told[wantAsPlain(t, head+line)]++
		if left == 0 {
			return
		}
		for _, word := range rest {
			try(line+" "+word, left-1)
		}
	}
	for _, step := range steps {
		if step == "feed" {
			try(step, 6)
		} else {
			try(step, 5)
		}
	}
	if told[api.OK] < 50 || told[api.ErrScriptField] < 1000 || told[api.ErrScriptWord] < 1000 {
		t.Errorf("too few of some kind: %v", told)
	}
}

// P19.1: all short words of DATA.
func TestAllShortData(t *testing.T) {
	told := map[api.Errno]int{}
	var try func(data string, left int)
	try = func(data string, left int) {
		told[wantAsPlain(t, head+"feed 1 "+data)]++
		if left == 0 {
			return
		}
		for _, c := range `=\xs4ag` {
			try(data+string(c), left-1)
		}
	}
	try("=", 5)
	try(`\`, 3)
	if told[api.OK] < 1000 || told[api.ErrScriptField] < 1000 {
		t.Errorf("too few of some kind: %v", told)
	}
}

// P19.1, R1: each byte of a text taken away, doubled, put in, or put in place of another one.
func TestEachByteSpoilt(t *testing.T) {
	text := "#a\n" + head + "open 1\nfeed 1 =a\\s\\x0d\\\\ break 3 keep 0 17\n\nhang 1 break 1\ntick\ndrain\ncrash keep 5\nstart\n"
	told := map[api.Errno]int{}
	for at := range len(text) {
		told[wantAsPlain(t, text[:at])]++
		told[wantAsPlain(t, text[at:])]++
		told[wantAsPlain(t, text[:at]+text[at+1:])]++
		for c := range 256 {
			told[wantAsPlain(t, text[:at]+string([]byte{byte(c)})+text[at+1:])]++
			told[wantAsPlain(t, text[:at]+string([]byte{byte(c)})+text[at:])]++
		}
	}
	if told[api.OK] < 100 || told[api.ErrScriptField] < 100 || told[api.ErrScriptWord] < 100 || told[api.ErrScriptConfig] < 20 {
		t.Errorf("too few of some kind: %v", told)
	}
}

// someNumber is one from least on, most often a small one.
func someNumber(dice *rand.Rand, least int) int {
	switch dice.Intn(8) {
	case 0:
		return least
	case 1:
		return maxWord - dice.Intn(2)
	case 2:
		return 1 + dice.Intn(maxWord)
	}
	return least + dice.Intn(70)
}

func someKeep(dice *rand.Rand) []int {
	var keep []int
	for range dice.Intn(4) {
		keep = append(keep, someNumber(dice, 0))
	}
	return keep
}

// someStep is a right one.
func someStep(dice *rand.Rand) api.Step {
	const often = " \r\n\\sxrn=#\"'0a~!"
	s := api.Step{Kind: 1 + dice.Intn(7)}
	if s.Kind <= api.StHang {
		s.Conn = someNumber(dice, 0)
	}
	if s.Kind == api.StFeed {
		s.Data = make([]byte, dice.Intn(30))
		for i := range s.Data {
			s.Data[i] = often[dice.Intn(len(often))]
			if dice.Intn(3) == 0 {
				s.Data[i] = byte(dice.Intn(256))
			}
		}
	}
	switch s.Kind {
	case api.StFeed, api.StHang, api.StTick, api.StStart:
		if dice.Intn(2) == 0 {
			s.Break, s.Keep = someNumber(dice, 1), someKeep(dice)
		}
	case api.StCrash:
		s.Keep = someKeep(dice)
	}
	return s
}

// somePlay is a right one.
func somePlay(dice *rand.Rand) api.Play {
	segment := 128 + dice.Intn(200)
	p := api.Play{Config: api.Config{JobMax: 1 + dice.Intn(65535), Segment: segment, Quota: 1024 + 4*segment + dice.Intn(1<<20)}}
	for range dice.Intn(12) {
		p.Steps = append(p.Steps, someStep(dice))
	}
	return p
}

// P19.2, P19.3: Parse of what Print wrote is the play, and Print writes it as a plain writing does.
func TestPrintAndParse(t *testing.T) {
	dice := rand.New(rand.NewSource(191))
	for range 5000 {
		p := somePlay(dice)
		want, code := writePlainly(p)
		text, err := Print(p)
		if text != want || err != code || err != api.OK {
			t.Fatalf("Print(%s) = %q, %d; want %q, %d", show(p), text, err, want, code)
		}
		if read, line, err := Parse(text); !same(read, p) || line != 0 || err != api.OK {
			t.Fatalf("Parse(%q) = %s, %d, %d; want %s", text, show(read), line, err, show(p))
		}
	}
}

// longer writes a play otherwise than Print does: zeros ahead of numbers, other forms of bytes, lines that are passed over.
func longer(dice *rand.Rand, text string) string {
	over := func() string {
		out := ""
		for range max(0, dice.Intn(5)-2) {
			out += []string{"\n", "#\n", "# tick\n", "#\xff\x00\r\n"}[dice.Intn(4)]
		}
		return out
	}
	out := over()
	for _, line := range strings.SplitAfter(text, "\n") {
		words := strings.Split(line, " ")
		for i, word := range words {
			switch {
			case i > 0 && word[0] >= '0' && word[0] <= '9':
				words[i] = strings.Repeat("0", dice.Intn(3)) + word
			case word[:min(1, len(word))] == "=":
				words[i] = "=" + longerData(dice, word[1:])
			}
		}
		out += strings.Join(words, " ") + over()
	}
	if dice.Intn(2) == 0 && out[len(out)-1] == '\n' {
		out = out[:len(out)-1]
	}
	return out
}

func longerData(dice *rand.Rand, data string) string {
	out := ""
	for _, form := range byteForm.FindAllString(strings.TrimSuffix(data, "\n"), -1) {
		if dice.Intn(3) == 0 {
			form = fmt.Sprintf(`\x%02x`, plainData(form)[0])
		}
		out += form
	}
	return out + strings.Repeat("\n", strings.Count(data, "\n"))
}

// P19.3: where Parse reads a play, Print writes it in no more bytes (a line feed at the end left out), and Parse of that is the same play.
func TestParseAndPrint(t *testing.T) {
	dice := rand.New(rand.NewSource(193))
	shorter := 0
	for range 5000 {
		p := somePlay(dice)
		want, _ := Print(p)
		text := longer(dice, want)
		if read, line, err := Parse(text); !same(read, p) || line != 0 || err != api.OK {
			t.Fatalf("Parse(%q) = %s, %d, %d; want %s", text, show(read), line, err, show(p))
		}
		wantAsPlain(t, text)
		wantPrinted(t, p, want)
		wantParsed(t, want, p)
		if size := len(strings.TrimSuffix(text, "\n")) + 1; len(want) > size {
			t.Fatalf("%q has %d bytes, %q more", text, size, want)
		} else if len(want) < size {
			shorter++
		}
	}
	if shorter < 1000 {
		t.Errorf("only %d texts were longer than what Print writes", shorter)
	}
}

// P19.3: a text of MaxPlay bytes without a line feed at the end is read, but too long to be written.
func TestLineFeedTooMuch(t *testing.T) {
	text := head + "feed 1 ="
	text += strings.Repeat("a", maxPlay-len(text))
	p, line, err := Parse(text)
	if line != 0 || err != api.OK || len(p.Steps) != 1 {
		t.Fatalf("Parse = %s, %d, %d", show(p), line, err)
	}
	wantUnprinted(t, p, api.ErrScriptLong)
	// With a byte that has a shorter form there is room for it.
	p, line, err = Parse(text[:maxPlay-4] + `\x61`)
	if line != 0 || err != api.OK || len(p.Steps) != 1 {
		t.Fatalf("Parse = %s, %d, %d", show(p), line, err)
	}
	wantPrinted(t, p, text[:maxPlay-3]+"\n")
}

// P19.3: lines that are passed over, put in at each place, change nothing but the number of the line.
func TestLinesPutIn(t *testing.T) {
	texts := []string{head + "open 1\nfeed 1 =a\ntick\n", head + "open 1\ntick 1\ntick\n", head + "open 1\nticks\ntick\n", "open\n" + head, "stint 1 1\n" + head, "stint 1 1 1\n" + head}
	for _, text := range texts {
		lines := strings.SplitAfter(text, "\n")
		want, at, code := Parse(text)
		for i := range lines {
			for _, over := range []string{"\n", "#\n", "# a  b\r\n"} {
				put := strings.Join(slices.Insert(slices.Clone(lines), i, over), "")
				line := at
				if at > i {
					line++
				}
				if p, got, err := Parse(put); !same(p, want) || got != line || err != code {
					t.Errorf("Parse(%q) = %s, %d, %d; want %s, %d, %d", put, show(p), got, err, show(want), line, code)
				}
			}
		}
	}
}

// spoil puts in, takes out or changes something of a text.
func spoil(dice *rand.Rand, text string) string {
	pieces := []string{" ", "\n", "0", "9", "\\", "=", "#", "\r", "\xff", "é", " 1", " keep 1", " break 1", "  ", "tick\n", "stint", "4611686018427387904", string([]byte{byte(dice.Intn(256))})}
	at := dice.Intn(len(text) + 1)
	piece := pieces[dice.Intn(len(pieces))]
	switch dice.Intn(4) {
	case 0:
		return text[:at] + piece + text[at:]
	case 1:
		return text[:at] + text[min(at+1, len(text)):]
	case 2:
		return text[:at] + piece + text[min(at+1, len(text)):]
	}
	words := strings.Split(text, " ")
	i := dice.Intn(len(words))
	switch dice.Intn(3) {
	case 0:
		words = slices.Delete(words, i, i+1)
	case 1:
		words = slices.Insert(words, i, words[dice.Intn(len(words))])
	default:
		words[i] = piece
	}
	return strings.Join(words, " ")
}

// P19.1, R1: right texts, some spoilt at a few places, are read as a plain reading says.
func TestParsePlays(t *testing.T) {
	dice := rand.New(rand.NewSource(192))
	told := map[api.Errno]int{}
	for range 20000 {
		text, _ := Print(somePlay(dice))
		text = longer(dice, text)
		for range dice.Intn(4) {
			text = spoil(dice, text)
		}
		told[wantAsPlain(t, text)]++
	}
	if told[api.OK] < 1000 || told[api.ErrScriptField] < 1000 || told[api.ErrScriptWord] < 1000 || told[api.ErrScriptConfig] < 30 {
		t.Errorf("too few of some kind: %v", told)
	}
}

// R1: any bytes are read as a plain reading says.
func TestParseNoise(t *testing.T) {
	const often = "stint 100256keopfdbra=\\x#\n\n  \r"
	dice := rand.New(rand.NewSource(194))
	for range 20000 {
		text := make([]byte, dice.Intn(40))
		for i := range text {
			text[i] = often[dice.Intn(len(often))]
			if dice.Intn(20) == 0 {
				text[i] = byte(dice.Intn(256))
			}
		}
		wantAsPlain(t, string(text))
		wantAsPlain(t, head+string(text))
	}
}

// P19.2, R1: plays with a few fields changed are written and refused as a plain writing says.
func TestPrintPlays(t *testing.T) {
	dice := rand.New(rand.NewSource(195))
	numbers := []int{math.MinInt, -1, 0, 0, 1, 2, 127, 128, 1023, 1024, 65535, 65536, maxWord, maxWord + 1, math.MaxInt}
	told := map[api.Errno]int{}
	for range 20000 {
		p := somePlay(dice)
		for range dice.Intn(3) {
			n := numbers[dice.Intn(len(numbers))]
			if dice.Intn(10) == 0 {
				*[]*int{&p.Config.JobMax, &p.Config.Segment, &p.Config.Quota}[dice.Intn(3)] = n
			}
			if len(p.Steps) == 0 {
				continue
			}
			s := &p.Steps[dice.Intn(len(p.Steps))]
			switch dice.Intn(6) {
			case 0:
				s.Kind = dice.Intn(10) - 1
			case 1:
				s.Conn = n
			case 2:
				s.Data = make([]byte, dice.Intn(2))
			case 3:
				s.Break = n
			case 4:
				s.Keep = nil
			default:
				s.Keep = append(s.Keep, n)
			}
		}
		want, code := writePlainly(p)
		if text, err := Print(p); text != want || err != code {
			t.Fatalf("Print(%s) = %q, %d; want %q, %d", show(p), text, err, want, code)
		}
		told[code]++
	}
	if told[api.OK] < 1000 || told[api.ErrScriptField] < 1000 || told[api.ErrScriptConfig] < 100 {
		t.Errorf("too few of some kind: %v", told)
	}
}

// P19.3: plays that differ are written in ways that differ.
func TestOneWayEach(t *testing.T) {
	var steps []api.Step
	for kind := 1; kind <= 7; kind++ {
		for bits := range 81 {
			s := api.Step{Kind: kind, Conn: bits % 3, Data: []byte{0: ' ', 1: 's'}[:bits/3%3], Break: bits / 9 % 3, Keep: []int{1, 0}[:bits/27]}
			if _, err := Print(play(s)); err == api.OK {
				steps = append(steps, s)
			}
		}
	}
	written := map[string]int{}
	for i, s := range steps {
		text, _ := Print(play(s))
		if other, there := written[text]; there {
			t.Errorf("%v and %v are both written %q", steps[other], s, text)
		}
		written[text] = i
	}
	if len(steps) < 80 {
		t.Errorf("only %d steps", len(steps))
	}
}
