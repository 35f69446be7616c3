package yaml

import (
	"bytes"
	"fmt"
	"math/rand"
	"regexp"
	"slices"
	"strings"
	"sync"
	"testing"
	"time"
	"unsafe"

	"stint/api"
)

const (
	keyBytes  = "abcdefghijklmnopqrstuvwxyz" + "0123456789" + "-"
	textBytes = "!\"#$%&'()*+,-./" + "0123456789" + ":;<=>?@" + "ABCDEFGHIJKLMNOPQRSTUVWXYZ" + "[\\]^_`" + "abcdefghijklmnopqrstuvwxyz" + "{|}~"
)

// Texts that are not plain.
var wrongTexts = []string{
	"", " ", "a b", " a", "a ", "\n", "a\n", "\na", "a\nb", "\r", "a\r", "a\r\n", "\t", "a\tb", "\x00", "a\x00", "\x1f", "\x7f", "a\x7f",
	"\x80", "\xff", "a\xff", "é", "aé", "日本", "\u00a0", "\u2028", "a - b", "- a", "a: b", "---\n", "---\n- a\n",
	strings.Repeat("a", 4097), strings.Repeat("a", 8192), strings.Repeat("a", 4095) + "é", strings.Repeat("é", 2048), strings.Repeat("~", 100000),
	strings.Repeat("a", 4096) + "\n", strings.Repeat("a", 4095) + " ",
}

// Texts that are plain.
var rightTexts = []string{
	"a", "!", "~", "-", "--", "---", "-a", ":", "::", "a:", ":a", "a:b", "0", "null", "#", "\"", "'a'", "{}", "[a]", "&a", "*a", "|", ">", "%", "@", "`",
	"default", "A-b+c/d;e.f$g_h(i)", textBytes, strings.Repeat("a", 4095), strings.Repeat("a", 4096), strings.Repeat("-", 4096),
}

// Texts that are no keys.
var wrongKeys = []string{
	"", " ", "A", "Z", "Name", "a b", " a", "a ", "a_b", "a.b", "a:", ":", "a:b", "a: b", "a\n", "\n", "\x00", "é", "aé", "\xff", "`", "{", "/", ",", "a/", "@",
	"a:a", "K", "aB", strings.Repeat("a", 65), strings.Repeat("a", 64) + "\n", strings.Repeat("-", 65), strings.Repeat("é", 32), strings.Repeat("a", 5000),
}

// Texts that are keys.
var rightKeys = []string{
	"a", "z", "0", "9", "-", "--", "---", "-a", "a-", "name", "current-jobs-ready", "007", keyBytes, strings.Repeat("a", 63), strings.Repeat("a", 64), strings.Repeat("-", 64),
}

// lf writes a line feed for each point, as the chapter does.
func lf(text string) string { return strings.ReplaceAll(text, ".", "\n") }

// short cuts what is long, so that a failure can be read.
func short(x any) string {
	text := fmt.Sprintf("%+q", x)
	if len(text) > 200 {
		text = fmt.Sprintf("%s .. (%d bytes)", text[:200], len(text))
	}
	return text
}

// dict makes pairs of a key, a value, a key, a value ..
func dict(words ...string) []api.Pair {
	var l []api.Pair
	for i := 0; i < len(words); i += 2 {
		l = append(l, api.Pair{Key: words[i], Value: words[i+1]})
	}
	return l
}

// numbered makes that many pairs with keys of their own.
func numbered(count int) []api.Pair {
	var l []api.Pair
	for i := range count {
		l = append(l, api.Pair{Key: fmt.Sprint("k", i), Value: fmt.Sprint(i)})
	}
	return l
}

func wantList(t *testing.T, l []string, want string) {
	t.Helper()
	if b, err := List(l); string(b) != want || err != api.OK {
		t.Errorf("List(%s) = %s, %d; want %s", short(l), short(b), err, short(want))
	}
}

func wantNoList(t *testing.T, l []string) {
	t.Helper()
	if b, err := List(l); len(b) != 0 || err != api.ErrYamlText {
		t.Errorf("List(%s) = %s, %d; want none, ErrYamlText", short(l), short(b), err)
	}
}

func wantDict(t *testing.T, l []api.Pair, want string) {
	t.Helper()
	if b, err := Dict(l); string(b) != want || err != api.OK {
		t.Errorf("Dict(%s) = %s, %d; want %s", short(l), short(b), err, short(want))
	}
}

func wantNoDict(t *testing.T, l []api.Pair, want api.Errno) {
	t.Helper()
	if b, err := Dict(l); len(b) != 0 || err != want {
		t.Errorf("Dict(%s) = %s, %d; want none, %d", short(l), short(b), err, want)
	}
}

func wantListRead(t *testing.T, text string, want ...string) {
	t.Helper()
	if l, err := ReadList([]byte(text)); !slices.Equal(l, want) || err != api.OK {
		t.Errorf("ReadList(%s) = %s, %d; want %s", short(text), short(l), err, short(want))
	}
}

func wantListUnread(t *testing.T, text string) {
	t.Helper()
	if l, err := ReadList([]byte(text)); len(l) != 0 || err != api.ErrYamlForm {
		t.Errorf("ReadList(%s) = %s, %d; want none, ErrYamlForm", short(text), short(l), err)
	}
}

func wantDictRead(t *testing.T, text string, want ...api.Pair) {
	t.Helper()
	if l, err := ReadDict([]byte(text)); !slices.Equal(l, want) || err != api.OK {
		t.Errorf("ReadDict(%s) = %s, %d; want %s", short(text), short(l), err, short(want))
	}
}

func wantDictUnread(t *testing.T, text string) {
	t.Helper()
	if l, err := ReadDict([]byte(text)); len(l) != 0 || err != api.ErrYamlForm {
		t.Errorf("ReadDict(%s) = %s, %d; want none, ErrYamlForm", short(text), short(l), err)
	}
}

// The chapter's examples, line by line.
func TestExamples(t *testing.T) {
	wantList(t, nil, lf("---."))
	wantList(t, []string{"default", "a", "a"}, lf("---.- default.- a.- a."))

	wantList(t, []string{"-", "---"}, lf("---.- -.- ---."))

	wantNoList(t, []string{""})
	wantNoList(t, []string{"a b"})
	wantNoList(t, []string{strings.Repeat("a", 4097)})

	wantDict(t, nil, lf("---."))
	wantDict(t, dict("name", "a:b", "pause", "0"), lf("---.name: a:b.pause: 0."))

	wantNoDict(t, dict("Name", "a"), api.ErrYamlKey)
	wantNoDict(t, dict("a", "1", "a", "2"), api.ErrYamlKey)
	wantNoDict(t, dict("a", ""), api.ErrYamlText)
	wantNoDict(t, dict("", ""), api.ErrYamlKey)

	wantNoDict(t, numbered(257), api.ErrArg)
	wantNoDict(t, make([]api.Pair, 257), api.ErrArg)

	wantListRead(t, lf("---.- a."), "a")
	wantListRead(t, lf("---."))
	wantDictRead(t, lf("---."))

	for _, text := range []string{"", "---", "---.- a", "---.-a.", "---.- .", "---.- a ."} {
		wantListUnread(t, lf(text))
	}

	wantDictUnread(t, lf("---.a: 1.b:: 2."))

	wantDictUnread(t, lf("---.a: : ."))
	wantDictRead(t, lf("---.a: :."), dict("a", ":")...)

	wantDictRead(t, lf("---.-: -."), dict("-", "-")...)
}

// The numbers of the chapter's errors and limits.
func TestNumbers(t *testing.T) {
	if api.OK != 0 || api.ErrArg != 1 || api.ErrYamlKey != 90 || api.ErrYamlText != 91 || api.ErrYamlForm != 92 {
		t.Error("an error has another number than the chapter says")
	}
	if api.MaxText != 4096 || api.MaxPairs != 256 {
		t.Error("a limit is another one than the chapter says")
	}
}

// P9.1, P9.3: each of the 256 bytes, alone and at each place of a text.
func TestListBytes(t *testing.T) {
	for c := range 256 {
		s := string([]byte{byte(c)})
		for _, text := range []string{s, s + "a", "a" + s, "a" + s + "a", s + s, "ab" + s + "cd"} {
			if strings.Contains(textBytes, s) {
				wantList(t, []string{text}, "---\n- "+text+"\n")
				wantListRead(t, "---\n- "+text+"\n", text)
			} else {
				wantNoList(t, []string{text})
				if c != '\n' {
					wantListUnread(t, "---\n- "+text+"\n")
				}
			}
		}
	}
}

// P9.1, P9.3: texts up to MaxText bytes.
func TestListSizes(t *testing.T) {
	for _, size := range []int{1, 2, 64, 65, 200, 224, 255, 256, 257, 1000, 4094, 4095, 4096, 4097, 4098, 5000, 8191, 8192, 8193, 65536, 69632} {
		text := strings.Repeat("x", size)
		for _, l := range [][]string{{text}, {"a", text}, {text, "a"}} {
			written := "---\n- " + strings.Join(l, "\n- ") + "\n"
			if size <= 4096 {
				wantList(t, l, written)
				wantListRead(t, written, l...)
			} else {
				wantNoList(t, l)
				wantListUnread(t, written)
			}
		}
	}
}

// P9.1: one wrong text among right ones, wherever it stands, is enough.
func TestListRefuses(t *testing.T) {
	for _, wrong := range wrongTexts {
		wantNoList(t, []string{wrong})
		wantNoList(t, []string{wrong, wrong})
		for at := range 5 {
			wantNoList(t, slices.Insert([]string{"a", "b", "c", "d"}, at, wrong))
		}
	}
	wantNoList(t, append(slices.Repeat([]string{"a"}, 1000), ""))
	wantNoList(t, make([]string, 300))
}

// P9.1: the order is that of l, and a text may stand there more than once.
func TestListOrder(t *testing.T) {
	wantList(t, []string{"b", "a"}, lf("---.- b.- a."))
	wantList(t, []string{"a", "b"}, lf("---.- a.- b."))
	wantList(t, []string{"a", "b", "a", "a"}, lf("---.- a.- b.- a.- a."))
	wantListRead(t, lf("---.- b.- a.- b."), "b", "a", "b")
	for _, text := range rightTexts {
		wantList(t, []string{text, text}, "---\n- "+text+"\n- "+text+"\n")
		wantListRead(t, "---\n- "+text+"\n- "+text+"\n", text, text)
	}
	wantList(t, rightTexts, "---\n- "+strings.Join(rightTexts, "\n- ")+"\n")
}

// P9.1, P9.3: a list may have any number of texts; MaxPairs is none of its limits.
func TestListOfAnyNumber(t *testing.T) {
	for _, count := range []int{0, 1, 2, 255, 256, 257, 1000, 4097, 65537} {
		l := slices.Repeat([]string{"a"}, count)
		written := "---\n" + strings.Repeat("- a\n", count)
		wantList(t, l, written)
		wantListRead(t, written, l...)
	}
}

// P9.2: at most MaxPairs pairs; with more of them nothing else is looked at.
func TestDictCount(t *testing.T) {
	for _, count := range []int{0, 1, 2, 10, 254, 255, 256} {
		var written strings.Builder
		written.WriteString("---\n")
		for _, p := range numbered(count) {
			written.WriteString(p.Key + ": " + p.Value + "\n")
		}
		wantDict(t, numbered(count), written.String())
		wantDictRead(t, written.String(), numbered(count)...)
	}
	for _, count := range []int{257, 258, 300, 512, 513, 65536, 65792} {
		wantNoDict(t, numbered(count), api.ErrArg)
		wantNoDict(t, slices.Repeat(dict("a", "1"), count), api.ErrArg)
		wantNoDict(t, slices.Repeat(dict("a", ""), count), api.ErrArg)
		wantNoDict(t, slices.Repeat(dict("A", "1"), count), api.ErrArg)
		wantNoDict(t, make([]api.Pair, count), api.ErrArg)
	}
	wantNoDict(t, make([]api.Pair, 256), api.ErrYamlKey)
}

// P9.2, P9.4: each of the 256 bytes, alone and at each place of a key.
func TestKeyBytes(t *testing.T) {
	for c := range 256 {
		s := string([]byte{byte(c)})
		for _, key := range []string{s, s + "a", "a" + s, "a" + s + "a", s + s, "ab" + s + "cd"} {
			if strings.Contains(keyBytes, s) {
				wantDict(t, dict(key, "v"), "---\n"+key+": v\n")
				wantDictRead(t, "---\n"+key+": v\n", dict(key, "v")...)
			} else {
				wantNoDict(t, dict(key, "v"), api.ErrYamlKey)
				wantDictUnread(t, "---\n"+key+": v\n")
			}
		}
	}
}

// P9.2, P9.4: each of the 256 bytes, alone and at each place of a value.
func TestValueBytes(t *testing.T) {
	for c := range 256 {
		s := string([]byte{byte(c)})
		for _, value := range []string{s, s + "a", "a" + s, "a" + s + "a", s + s, "ab" + s + "cd"} {
			if strings.Contains(textBytes, s) {
				wantDict(t, dict("k", value), "---\nk: "+value+"\n")
				wantDictRead(t, "---\nk: "+value+"\n", dict("k", value)...)
			} else {
				wantNoDict(t, dict("k", value), api.ErrYamlText)
				if value != "a\n" {
					wantDictUnread(t, "---\nk: "+value+"\n")
				}
			}
		}
	}
}

// P9.2, P9.4: keys up to 64 bytes, values up to MaxText.
func TestDictSizes(t *testing.T) {
	for _, size := range []int{1, 2, 31, 32, 63, 64, 65, 66, 100, 127, 128, 129, 256, 320, 4096, 4160} {
		key := strings.Repeat("k", size)
		l, written := dict("a", "1", key, "v"), "---\na: 1\n"+key+": v\n"
		if size <= 64 {
			wantDict(t, l, written)
			wantDictRead(t, written, l...)
		} else {
			wantNoDict(t, l, api.ErrYamlKey)
			wantDictUnread(t, written)
		}
	}
	for _, size := range []int{1, 2, 64, 65, 4095, 4096, 4097, 4098, 8192, 69632} {
		value := strings.Repeat("v", size)
		l, written := dict("a", "1", "k", value), "---\na: 1\nk: "+value+"\n"
		if size <= 4096 {
			wantDict(t, l, written)
			wantDictRead(t, written, l...)
		} else {
			wantNoDict(t, l, api.ErrYamlText)
			wantDictUnread(t, written)
		}
	}
}

// P9.2: all right keys and values, and each wrong one.
func TestDictTexts(t *testing.T) {
	for _, key := range rightKeys {
		for _, value := range rightTexts {
			wantDict(t, dict(key, value), "---\n"+key+": "+value+"\n")
			wantDictRead(t, "---\n"+key+": "+value+"\n", dict(key, value)...)
		}
		for _, value := range wrongTexts {
			wantNoDict(t, dict(key, value), api.ErrYamlText)
		}
	}
	for _, key := range wrongKeys {
		for _, value := range slices.Concat(rightTexts, wrongTexts) {
			wantNoDict(t, dict(key, value), api.ErrYamlKey)
		}
	}
}

// P9.2: the first pair that is wrong tells the error, and of one pair the key does.
func TestDictFirstError(t *testing.T) {
	wantNoDict(t, dict("a", "", "A", "1"), api.ErrYamlText)
	wantNoDict(t, dict("A", "1", "a", ""), api.ErrYamlKey)
	wantNoDict(t, dict("a", "", "a", "1"), api.ErrYamlText)
	wantNoDict(t, dict("a", "1", "a", ""), api.ErrYamlKey)
	wantNoDict(t, dict("a", "1", "b", "", "a", "1"), api.ErrYamlText)
	wantNoDict(t, dict("a", "1", "a", "1", "b", ""), api.ErrYamlKey)
	wantNoDict(t, dict("a", "1", "b", " ", "B", "2"), api.ErrYamlText)
	for at := range 256 {
		l := numbered(256)
		l[at].Value = "a b"
		wantNoDict(t, l, api.ErrYamlText)
		l[at].Key = "a b"
		wantNoDict(t, l, api.ErrYamlKey)
		if at > 0 {
			l[at-1].Value = ""
			wantNoDict(t, l, api.ErrYamlText)
		}
	}
}

// P9.2, P9.4: no key stands there twice, wherever the two stand and whatever their values are.
func TestDictKeysTwice(t *testing.T) {
	for _, places := range [][2]int{{0, 1}, {0, 2}, {0, 255}, {1, 2}, {1, 254}, {100, 200}, {127, 128}, {254, 255}} {
		for _, value := range []string{"1", "other"} {
			l := numbered(256)
			l[places[0]].Value = "1"
			l[places[1]] = api.Pair{Key: l[places[0]].Key, Value: value}
			wantNoDict(t, l, api.ErrYamlKey)
			wantDictUnread(t, writtenPlainly(l))
		}
	}
	for _, key := range rightKeys {
		wantNoDict(t, dict(key, "1", key, "1"), api.ErrYamlKey)
		wantDictUnread(t, "---\n"+key+": 1\n"+key+": 1\n")
	}
	l := dict("a", "1", "aa", "1", "aaa", "1", "a-", "1", "-a", "1", "ab", "1", "ba", "1", "0", "1", "00", "1")
	wantDict(t, l, lf("---.a: 1.aa: 1.aaa: 1.a-: 1.-a: 1.ab: 1.ba: 1.0: 1.00: 1."))
	wantDictRead(t, writtenPlainly(l), l...)
}

// P9.2: the order is that of l.
func TestDictOrder(t *testing.T) {
	wantDict(t, dict("b", "1", "a", "2"), lf("---.b: 1.a: 2."))
	wantDict(t, dict("a", "2", "b", "1"), lf("---.a: 2.b: 1."))
	wantDictRead(t, lf("---.b: 1.a: 2."), dict("b", "1", "a", "2")...)
	wantDict(t, dict("z", "same", "y", "same", "-", "same"), lf("---.z: same.y: same.-: same."))
}

// P9.3: bytes that List never answers.
func TestListUnread(t *testing.T) {
	for _, text := range []string{
		".", "..", "-", "--", "--.", "----.", "---..", ".---.", " ---.", "--- .", "---\r.", "---\t.", "- -.", "-- -.", "---- a.", "---- a..",
		"- a.", "a.", "---.a.", "---.a", "---.-", "---.- ", "---.-.", "---.--.", "---.---.", "---.--- a.", "---.-- a.", "---. - a.", "---.-  a.", "---.-\ta.",
		"---.- a. ", "---.- a.-", "---.- a.- ", "---.- a.- b", "---.- a..", "---.- a..- b.", "---..- a.", "---.- a.b.", "---.- a.b: c.", "---.- a.---.",
		"---.- a.---.- b.", "---.- a\r.", "---.- a\r.- b.", "---\r.- a\r.", "---.- a.- .", "---.- .- a.", "---.- a b.", "---.- a.- b .", "---.+ a.", "---.* a.", "---.a: b.", "---.-: -.",
		"---.- a.\x00", "\xef\xbb\xbf---.- a.", "...", "---.- a....", "---.- \xff.", "---.- é.", "---.- a\x00.",
	} {
		wantListUnread(t, lf(text))
	}
	for _, wrong := range wrongTexts {
		wantListUnread(t, "---\n- "+wrong+"\n- a b\n")
		if !strings.Contains(wrong, "\n") {
			wantListUnread(t, "---\n- a\n- "+wrong+"\n- b\n")
		}
	}
}

// P9.4: bytes that Dict never answers.
func TestDictUnread(t *testing.T) {
	for _, text := range []string{
		"", ".", "..", "-", "--", "---", "--.", "----.", "---..", ".---.", " ---.", "--- .", "---\r.", "---a: 1.", "a: 1.", "--a: 1.",
		"---.a", "---.a.", "---.a:", "---.a:.", "---.a: ", "---.a: .", "---.a: 1", "---.a:1.", "---.a 1.", "---.a :1.", "---.a : 1.", "---.a:  1.", "---. a: 1.", "---.a: 1 .",
		"---.: 1.", "---.: .", "---.:.", "---. : 1.", "---.a:\t1.", "---.a\t: 1.", "---.a: 1\r.", "---\r.a: 1\r.", "---.a: 1. ", "---.a: 1..", "---..a: 1.", "---.a: 1..b: 2.",
		"---.a: 1.b", "---.a: 1.b:", "---.a: 1.b: ", "---.a: 1.b: 2", "---.a: 1.b: 2 ", "---.a: b: c.", "---.a: b c.", "---.a:: b.", "---.a:b: c.", "---.a::.", "---.A: 1.", "---.a_b: 1.",
		"---.- a.", "---.a: 1.- b.", "---.a: 1.---.", "---.a: 1.---.b: 2.", "---.a: 1.b: 2.a: 3.", "---.a: 1.a: 1.", "---.\"a\": 1.", "---.a: é.", "---.é: 1.", "---.a: \x00.", "\xef\xbb\xbf---.a: 1.",
		"---.a: 1.\x00", "---.a: 1...", "---.?: 1.", "---.#a: 1.",
	} {
		wantDictUnread(t, lf(text))
	}
	for _, key := range wrongKeys {
		wantDictUnread(t, "---\n"+key+": 1\n")
		wantDictUnread(t, "---\na: 1\n"+key+": 1\nb: 1\n")
	}
	for _, value := range wrongTexts {
		if !strings.Contains(value, "\n") {
			wantDictUnread(t, "---\na: "+value+"\n")
			wantDictUnread(t, "---\na: 1\nb: "+value+"\nc: 1\n")
		}
	}
}

// P9.4: more than MaxPairs pairs are no dictionary, right as each of them may be.
func TestReadDictCount(t *testing.T) {
	for _, count := range []int{257, 258, 512, 513, 1000, 65792} {
		wantDictUnread(t, writtenPlainly(numbered(count)))
	}
	wantDictUnread(t, writtenPlainly(numbered(256))+"\n")
	wantDictUnread(t, writtenPlainly(numbered(256))+"a")
	wantDictUnread(t, writtenPlainly(numbered(256))+"a: 1")
	wantDictUnread(t, writtenPlainly(numbered(256))+"k0: 0\n")
}

// writtenPlainly writes pairs as they are, right or wrong.
func writtenPlainly(l []api.Pair) string {
	text := "---\n"
	var lines []string
	for _, p := range l {
		lines = append(lines, p.Key+": "+p.Value+"\n")
	}
	return text + strings.Join(lines, "")
}

var (
	plainList = regexp.MustCompile(`\A---\n(- [!-~]+\n)*\z`)
	plainDict = regexp.MustCompile(`\A---\n([a-z0-9-]{1,64}: [!-~]+\n)*\z`)
	plainKey  = regexp.MustCompile(`\A[a-z0-9-]{1,64}\z`)
	plainText = regexp.MustCompile(`\A[!-~]+\z`)
)

// linesOf are the lines behind the first one, without their ends.
func linesOf(text string) []string {
	lines := strings.Split(text, "\n")
	return lines[1 : len(lines)-1]
}

// readListPlainly reads a list by other means.
func readListPlainly(text string) ([]string, bool) {
	if !plainList.MatchString(text) {
		return nil, false
	}
	var l []string
	for _, line := range linesOf(text) {
		l = append(l, line[2:])
		if len(line) > 2+4096 {
			return nil, false
		}
	}
	return l, true
}

// readDictPlainly reads a dictionary by other means.
func readDictPlainly(text string) ([]api.Pair, bool) {
	if !plainDict.MatchString(text) {
		return nil, false
	}
	var l []api.Pair
	seen := map[string]bool{}
	for _, line := range linesOf(text) {
		p := strings.SplitN(line, ": ", 2)
		if seen[p[0]] || len(p[1]) > 4096 || len(l) == 256 {
			return nil, false
		}
		seen[p[0]] = true
		l = append(l, api.Pair{Key: p[0], Value: p[1]})
	}
	return l, true
}

// wantReadAsPlainly holds both readers against the plain ones, and writes again what was read (P9.3 to P9.5).
func wantReadAsPlainly(t *testing.T, text string) (isList, isDict bool) {
	t.Helper()
	list, isList := readListPlainly(text)
	if isList {
		wantListRead(t, text, list...)
		wantList(t, list, text)
	} else {
		wantListUnread(t, text)
	}
	pairs, isDict := readDictPlainly(text)
	if isDict {
		wantDictRead(t, text, pairs...)
		wantDict(t, pairs, text)
	} else {
		wantDictUnread(t, text)
	}
	if isList && isDict && text != "---\n" {
		t.Errorf("%s is both a list and a dictionary", short(text))
	}
	return isList, isDict
}

// everyText calls f with each text of at most that many of these letters.
func everyText(letters string, most int, f func(text string)) {
	var grow func(text string)
	grow = func(text string) {
		f(text)
		if len(text) == most {
			return
		}
		for i := range len(letters) {
			grow(text + letters[i:i+1])
		}
	}
	grow("")
}

// P9.3 to P9.5: all short texts of those bytes that the forms are made of, alone and behind what a text may begin with.
func TestAllShortTexts(t *testing.T) {
	lists, dicts := 0, 0
	count := func(isList, isDict bool) {
		if isList {
			lists++
		}
		if isDict {
			dicts++
		}
	}
	everyText("- \n:a", 6, func(text string) {
		count(wantReadAsPlainly(t, text))
	})
	for _, beginning := range []string{"---", "---\n", "---\n- a\n", "---\na: b\n", "---\n-: -\n"} {
		everyText("- \n:a", 5, func(text string) {
			count(wantReadAsPlainly(t, beginning+text))
			count(wantReadAsPlainly(t, beginning+text+"\n"))
		})
	}
	if lists < 100 || dicts < 100 {
		t.Errorf("there were %d lists and %d dictionaries; want more of them", lists, dicts)
	}
}

// P9.3, P9.4: each byte of a text taken away, doubled, or put in place of any other one.
func TestEachByteSpoilt(t *testing.T) {
	for _, text := range []string{"---.", "---.- a.", "---.- ab.- -.", "---.a: 1.", "---.-: -.b-2: :.", "---.a: b.c: d.ab: -."} {
		text = lf(text)
		for at := range len(text) {
			wantReadAsPlainly(t, text[:at])
			wantReadAsPlainly(t, text[at:])
			wantReadAsPlainly(t, text[:at]+text[at+1:])
			for c := range 256 {
				wantReadAsPlainly(t, text[:at]+string([]byte{byte(c)})+text[at+1:])
				wantReadAsPlainly(t, text[:at]+string([]byte{byte(c)})+text[at:])
			}
		}
		for c := range 256 {
			wantReadAsPlainly(t, text+string([]byte{byte(c)}))
		}
	}
}

// someText is a text of these bytes, most often a short one, now and then one about that long.
func someText(dice *rand.Rand, letters string, most int) string {
	size := 1 + dice.Intn(4)
	if dice.Intn(20) == 0 {
		size = most - 1 + dice.Intn(3)
	}
	text := make([]byte, size)
	for i := range text {
		text[i] = letters[dice.Intn(len(letters))]
	}
	if dice.Intn(60) == 0 {
		text[dice.Intn(size)] = byte(dice.Intn(256))
	}
	return string(text)
}

// someCount is most often a small number, now and then one about 256.
func someCount(dice *rand.Rand) int {
	if dice.Intn(10) == 0 {
		return 254 + dice.Intn(5)
	}
	return dice.Intn(8)
}

// checkPlainly tells what is wrong with a dictionary, by other means.
func checkPlainly(l []api.Pair) api.Errno {
	if len(l) > 256 {
		return 1
	}
	places := map[string]int{}
	for i, p := range l {
		first, there := places[p.Key]
		if !there {
			places[p.Key] = i
		}
		if there && first < i || !plainKey.MatchString(p.Key) {
			return 90
		}
		if len(p.Value) > 4096 || !plainText.MatchString(p.Value) {
			return 91
		}
	}
	return 0
}

// P9.1 to P9.5: lists and dictionaries at random, right and wrong ones, written, read, spoilt and read again, against plain means.
func TestAgainstPlain(t *testing.T) {
	dice := rand.New(rand.NewSource(9))
	for range 3000 {
		var list []string
		var pairs []api.Pair
		for range someCount(dice) {
			list = append(list, someText(dice, textBytes, 4096))
			pairs = append(pairs, api.Pair{Key: someText(dice, keyBytes, 64), Value: someText(dice, textBytes, 4096)})
		}
		if len(pairs) > 10 && dice.Intn(2) == 0 { // so many random keys are seldom all right
			for i, p := range numbered(len(pairs)) {
				pairs[i] = p
			}
		}

		text := strings.Join(append([]string{"---"}, list...), "\n- ") + "\n"
		if slices.ContainsFunc(list, func(x string) bool { return checkPlainly(dict("a", x)) != 0 }) {
			wantNoList(t, list)
		} else {
			wantList(t, list, text)
			wantListRead(t, text, list...)
		}
		wantReadAsPlainly(t, spoil(dice, text))

		text = writtenPlainly(pairs)
		if err := checkPlainly(pairs); err != 0 {
			wantNoDict(t, pairs, err)
		} else {
			wantDict(t, pairs, text)
			wantDictRead(t, text, pairs...)
		}
		wantReadAsPlainly(t, spoil(dice, text))
		if t.Failed() {
			return
		}
	}
}

// spoil changes some bytes of a text, or none.
func spoil(dice *rand.Rand, text string) string {
	const often = "--- \n:a"
	for range dice.Intn(3) {
		at := dice.Intn(len(text) + 1)
		c := often[dice.Intn(len(often))]
		if dice.Intn(4) == 0 {
			c = byte(dice.Intn(256))
		}
		till := min(at+dice.Intn(3), len(text))
		if dice.Intn(2) == 0 {
			text = text[:at] + text[till:]
		} else {
			text = text[:at] + string([]byte{c}) + text[till:]
		}
	}
	return text
}

// P9.5: lists that differ are written in ways that differ, and so are dictionaries.
func TestOneWayEach(t *testing.T) {
	lists, dicts := map[string]string{}, map[string]string{}
	words := []string{"-", "a", ":", "a:", "--", "---", "-a", "a:b"}
	everyText("01234567", 4, func(choice string) {
		var list []string
		var pairs []api.Pair
		for i := range len(choice) {
			list = append(list, words[choice[i]-'0'])
			pairs = append(pairs, api.Pair{Key: "a" + strings.Repeat("-", i), Value: words[choice[i]-'0']})
		}
		b, _ := List(list)
		if other, there := lists[string(b)]; there {
			t.Errorf("the lists %s and %s are both written %q", choice, other, b)
		}
		lists[string(b)] = choice
		b, _ = Dict(pairs)
		if other, there := dicts[string(b)]; there {
			t.Errorf("the dictionaries %s and %s are both written %q", choice, other, b)
		}
		dicts[string(b)] = choice
	})
}

// R3: a nil list and an empty one are the same.
func TestNothing(t *testing.T) {
	wantList(t, []string{}, "---\n")
	wantDict(t, []api.Pair{}, "---\n")
	if l, err := ReadList(nil); len(l) != 0 || err != api.ErrYamlForm {
		t.Errorf("ReadList(nil) = %q, %d", l, err)
	}
	if l, err := ReadDict(nil); len(l) != 0 || err != api.ErrYamlForm {
		t.Errorf("ReadDict(nil) = %q, %d", l, err)
	}
}

// R4: what is handed in is not changed, nor the spare room behind it.
func TestNothingIsChanged(t *testing.T) {
	list := []string{"a", "b", "spare", "room"}
	List(list[:2])
	List(list[:0])
	if !slices.Equal(list, []string{"a", "b", "spare", "room"}) {
		t.Errorf("List changed what it was given: %q", list)
	}
	pairs := dict("a", "1", "b", "2", "spare", "room")
	Dict(pairs[:2])
	Dict(pairs[:0])
	if !slices.Equal(pairs, dict("a", "1", "b", "2", "spare", "room")) {
		t.Errorf("Dict changed what it was given: %v", pairs)
	}
	for _, text := range []string{"---\n- a\n- b\nspare room", "---\na: 1\nb: 2\nspare room", "---\nspare room", "spare room"} {
		b := []byte(text)
		for size := range len(b) {
			ReadList(b[:size])
			ReadDict(b[:size])
		}
		if string(b) != text {
			t.Errorf("the bytes %q are %q behind their reading", text, b)
		}
	}
}

// R4: what is written shares no memory with another answer or with the texts.
func TestWrittenIsNew(t *testing.T) {
	for range 3 {
		for _, count := range []int{0, 1, 3, 100} {
			b, _ := List(slices.Repeat([]string{"a"}, count))
			want := string(b)
			again, _ := List(slices.Repeat([]string{"a"}, count))
			overwrite(b)
			if string(again) != want {
				t.Errorf("writing into one list's text changed another one: %q", again)
			}
			overwrite(again)
			d, _ := Dict(numbered(count))
			want = string(d)
			other, _ := Dict(numbered(count))
			overwrite(d)
			if string(other) != want {
				t.Errorf("writing into one dictionary's text changed another one: %q", other)
			}
			overwrite(other)
		}
	}
	wantList(t, nil, "---\n")
	wantDict(t, nil, "---\n")

	room := []byte("mail")
	text := unsafe.String(&room[0], len(room))
	b, _ := List([]string{text})
	d, _ := Dict([]api.Pair{{Key: text, Value: text}})
	copy(room, "XXXX")
	if string(b) != "---\n- mail\n" || string(d) != "---\nmail: mail\n" {
		t.Errorf("the answers changed with the texts: %q, %q", b, d)
	}
}

// overwrite writes over bytes and their spare room.
func overwrite(b []byte) {
	b = b[:cap(b)]
	for i := range b {
		b[i] = 'X'
	}
}

// R4: what is read stays as it is, whatever is written into the bytes, or into another answer and its spare room.
func TestReadIsNew(t *testing.T) {
	b := []byte("---\n- a\n- mail\n- mail\n")
	list, _ := ReadList(b)
	again, _ := ReadList(b)
	overwrite(b)
	if want := []string{"a", "mail", "mail"}; !slices.Equal(list, want) || !slices.Equal(again, want) {
		t.Errorf("the lists changed with the bytes: %q, %q", list, again)
	}
	clear(list[:cap(list)])
	if want := []string{"a", "mail", "mail"}; !slices.Equal(again, want) {
		t.Errorf("one list changed with another one: %q", again)
	}

	b = []byte("---\na: 1\nmail: box\n-: -\n")
	pairs, _ := ReadDict(b)
	others, _ := ReadDict(b)
	overwrite(b)
	if want := dict("a", "1", "mail", "box", "-", "-"); !slices.Equal(pairs, want) || !slices.Equal(others, want) {
		t.Errorf("the dictionaries changed with the bytes: %v, %v", pairs, others)
	}
	clear(pairs[:cap(pairs)])
	if want := dict("a", "1", "mail", "box", "-", "-"); !slices.Equal(others, want) {
		t.Errorf("one dictionary changed with another one: %v", others)
	}
	wantListRead(t, "---\n")
	wantDictRead(t, "---\n")
}

// R5: a call's answer hangs on no other call, also not on one that runs at the same time.
func TestCallsForgetEachOther(t *testing.T) {
	var all sync.WaitGroup
	for range 4 {
		all.Go(func() {
			for range 200 {
				wantDict(t, dict("a", "1"), "---\na: 1\n")
				wantNoDict(t, dict("a", "1", "a", "2"), api.ErrYamlKey)
				wantDictRead(t, "---\na: 1\n", dict("a", "1")...)
				wantDictUnread(t, "---\na: 1\nb")
				wantList(t, []string{"b"}, "---\n- b\n")
				wantNoList(t, []string{"b", ""})
				wantListRead(t, "---\n- b\n", "b")
				wantListUnread(t, "---\n- b\nb")
			}
		})
	}
	all.Wait()
}

// R1: great lists, dictionaries and bytes, right and wrong, are done in a time that grows with their size alone.
func TestGreatSizes(t *testing.T) {
	begun := time.Now()
	const many = 1 << 20
	list := slices.Repeat([]string{"a", "default"}, many/2)
	text := "---\n" + strings.Repeat("- a\n- default\n", many/2)
	wantList(t, list, text)
	wantListRead(t, text, list...)
	wantNoList(t, append(list, ""))
	wantListUnread(t, text+"-")
	wantDictUnread(t, text)

	var pairs []api.Pair
	for i := range 256 {
		pairs = append(pairs, api.Pair{Key: fmt.Sprintf("%064d", i), Value: strings.Repeat("v", 4096)})
	}
	wantDict(t, pairs, writtenPlainly(pairs))
	wantDictRead(t, writtenPlainly(pairs), pairs...)
	wantNoDict(t, slices.Repeat(pairs, many/256), api.ErrArg)

	const size = 1 << 22
	for _, beginning := range []string{"", "---", "---\n", "---\n- ", "---\n- a\n", "---\na: ", "---\na: b\n", "---\na"} {
		for _, piece := range []string{"-", "\n", "a", " ", ": ", "\x00", "a\n"} {
			b := append([]byte(beginning), bytes.Repeat([]byte(piece), size/len(piece))...)
			wantListUnread(t, string(b))
			wantDictUnread(t, string(b))
		}
	}
	if spent := time.Since(begun); spent > 60*time.Second {
		t.Errorf("it took %v", spent)
	}
}
