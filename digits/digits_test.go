package digits

import (
	"math"
	"math/big"
	"slices"
	"strings"
	"testing"
)

// Numbers at which an int, or a word of another size, comes to an end, and their neighbours.
var numbers = []int{
	0, 1, 2, 9, 10, 11, 12, 41, 42, 43, 99, 100, 101, 119, 120, 999, 1000,
	1<<31 - 1, 1 << 31, 1<<32 - 1, 1 << 32, 1<<32 + 1, 1 << 40, 1<<62 - 1, 1 << 62,
	922337203685477579, 922337203685477580, 922337203685477581,
	math.MaxInt - 8, math.MaxInt - 7, math.MaxInt - 6, math.MaxInt - 1, math.MaxInt,
}

// Numbers that no int has; some of them are small ones again if 64 bits wrap round.
var giants = []string{
	"9223372036854775808", "9223372036854775809", "9223372036854775810", "9223372036854775817", "9999999999999999999",
	"10000000000000000000", "18446744073709551615", "18446744073709551616", "18446744073709551617", "18446744073709551658",
	"36893488147419103232", "92233720368547758070", "340282366920938463463374607431768211456", strings.Repeat("9", 1000),
}

func wantParse(t *testing.T, s string, most, n int, ok bool) {
	t.Helper()
	if gotN, gotOk := Parse(s, most); gotN != n || gotOk != ok {
		t.Errorf("Parse(%.60q, %d) = %d, %v; want %d, %v", s, most, gotN, gotOk, n, ok)
	}
}

// P1.1: the number, where it is at most most.
func TestParseBound(t *testing.T) {
	for _, n := range numbers {
		s := big.NewInt(int64(n)).String()
		for _, most := range numbers {
			if n <= most {
				wantParse(t, s, most, n, true)
			} else {
				wantParse(t, s, most, 0, false)
			}
		}
	}
	for n := range 1200 {
		s := big.NewInt(int64(n)).String()
		wantParse(t, s, n, n, true)
		wantParse(t, s, n+1, n, true)
		wantParse(t, s, n-1, 0, false)
	}
}

// P1.1: a number counts as it is, also where no int has it.
func TestParseGiants(t *testing.T) {
	for _, s := range giants {
		for _, most := range numbers {
			wantParse(t, s, most, 0, false)
			wantParse(t, "00"+s, most, 0, false)
		}
	}
	// Ends of the greatest int that differ in the last digit alone.
	for d := range 10 {
		s := "922337203685477580" + string(rune('0'+d))
		if d <= 7 {
			wantParse(t, s, math.MaxInt, 9223372036854775800+d, true)
		} else {
			wantParse(t, s, math.MaxInt, 0, false)
		}
	}
}

// P1.1: zeros ahead count for nothing, however many.
func TestParseZerosAhead(t *testing.T) {
	wantParse(t, "007", 7, 7, true)
	wantParse(t, "007", 6, 0, false)
	wantParse(t, "00", 0, 0, true)
	for _, zeros := range []int{1, 2, 18, 19, 20, 21, 64, 1000, 100000} {
		ahead := strings.Repeat("0", zeros)
		wantParse(t, ahead, 0, 0, true)
		wantParse(t, ahead, math.MaxInt, 0, true)
		for _, n := range numbers {
			wantParse(t, ahead+big.NewInt(int64(n)).String(), n, n, true)
			wantParse(t, ahead+big.NewInt(int64(n)).String(), n-1, 0, false)
		}
	}
}

// P1.1: zeros behind count.
func TestParseZerosBehind(t *testing.T) {
	wantParse(t, "70", 70, 70, true)
	wantParse(t, "70", 69, 0, false)
	wantParse(t, "1000000000000000000", math.MaxInt, 1000000000000000000, true)
}

// P1.1: of a most below 0 the answer is always false.
func TestParseMostBelowZero(t *testing.T) {
	for _, most := range []int{-1, -2, -9, -10, -11, -100, math.MinInt + 1, math.MinInt} {
		for _, s := range []string{"0", "00", "1", "5", "9", "42", "", "-1", "x", "9223372036854775807", "9223372036854775808"} {
			wantParse(t, s, most, 0, false)
		}
	}
}

// P1.1: at least one byte, and digits alone, wherever another byte stands.
func TestParseOtherBytes(t *testing.T) {
	wantParse(t, "", 9, 0, false)
	wantParse(t, "", 0, 0, false)
	for b := range 256 {
		c := string([]byte{byte(b)})
		if '0' <= b && b <= '9' {
			wantParse(t, c, 9, b-'0', true)
			wantParse(t, "1"+c+"2", 192, 102+10*(b-'0'), true)
			continue
		}
		for _, s := range []string{c, c + "1", "1" + c, "1" + c + "2", c + c, "0" + c, c + "0"} {
			wantParse(t, s, 9, 0, false)
			wantParse(t, s, 1<<40, 0, false)
			wantParse(t, s, math.MaxInt, 0, false)
		}
	}
	for _, s := range []string{"+1", "-1", "-0", "1 ", " 1", "1\r\n", "0x1", "1e3", "1_000", "1.0", "1,000", "٣", "３", "1３", "²", "\xef\xbc", "1\xff", "1\x00"} {
		wantParse(t, s, 9, 0, false)
		wantParse(t, s, math.MaxInt, 0, false)
	}
}

// P1.2
func TestPrint(t *testing.T) {
	for _, k := range []struct {
		n int
		s string
	}{
		{0, "0"}, {1, "1"}, {9, "9"}, {10, "10"}, {99, "99"}, {100, "100"}, {120, "120"}, {1<<32 - 1, "4294967295"},
		{1 << 62, "4611686018427387904"}, {1000000000000000000, "1000000000000000000"}, {math.MaxInt, "9223372036854775807"},
		{-1, ""}, {-9, ""}, {-10, ""}, {-120, ""}, {math.MinInt + 1, ""}, {math.MinInt, ""},
	} {
		if s := Print(k.n); s != k.s {
			t.Errorf("Print(%d) = %q; want %q", k.n, s, k.s)
		}
	}
	for _, n := range numbers {
		if s := Print(n); s != big.NewInt(int64(n)).String() {
			t.Errorf("Print(%d) = %q", n, s)
		}
	}
}

// P1.3: each byte alone, and each at the beginning, in the middle and at the end of what else is a word.
func TestWordBytes(t *testing.T) {
	for b := range 256 {
		c := string([]byte{byte(b)})
		want := 33 <= b && b <= 126
		for _, s := range []string{c, c + "ab", "a" + c + "b", "ab" + c} {
			if Word(s) != want {
				t.Errorf("Word(%q) = %v", s, !want)
			}
		}
	}
}

// P1.3
func TestWord(t *testing.T) {
	for _, s := range []string{"a", "!", "~", "!~", "put", "reserve-with-timeout", "0", "-1", strings.Repeat("x", 100000)} {
		if !Word(s) {
			t.Errorf("Word(%.40q) = false", s)
		}
	}
	for _, s := range []string{"", " ", "a b", " a", "a ", "\x7f", "é", "aé", "éa", "a\n", "a\r\n", "\x00", "a\x00", "日本", "a\u00a0b", "a\u2003b", "\xff", "\xc1\xa1", "\u0141", "\U00010041", "\ufffd", strings.Repeat("x", 100000) + " "} {
		if Word(s) {
			t.Errorf("Word(%q) = true", s)
		}
	}
}

// Lines that are words with one blank between each two, and these words.
var lines = []struct {
	line  string
	words []string
}{
	{"a", []string{"a"}},
	{"put", []string{"put"}},
	{"put 1 2", []string{"put", "1", "2"}},
	{"a b", []string{"a", "b"}},
	{"a a a", []string{"a", "a", "a"}},
	{"! ~ !~", []string{"!", "~", "!~"}},
	{"put 10 0 60 5", []string{"put", "10", "0", "60", "5"}},
	{"bb a ccc", []string{"bb", "a", "ccc"}},
	{"pause-tube default 007", []string{"pause-tube", "default", "007"}},
}

func wantSplit(t *testing.T, line string, words []string) {
	t.Helper()
	if got, ok := Split(line); !ok || !slices.Equal(got, words) {
		t.Errorf("Split(%.60q) = %.60q, %v; want %.60q", line, got, ok, words)
	}
}

func wantNoSplit(t *testing.T, line string) {
	t.Helper()
	if got, ok := Split(line); ok || len(got) != 0 {
		t.Errorf("Split(%.60q) = %.60q, %v; want none", line, got, ok)
	}
}

// P1.4: pieces that are words.
func TestSplit(t *testing.T) {
	for _, k := range lines {
		wantSplit(t, k.line, k.words)
	}
	many := slices.Repeat([]string{"x", "yz"}, 20000)
	wantSplit(t, strings.Join(many, " "), many)
}

// P1.4: blanks at the beginning, at the end, side by side; the empty line.
func TestSplitBlanks(t *testing.T) {
	for _, line := range []string{"", " ", "  ", " a", "a ", " a ", "put 1  2", "a  b", "  a b", "a b  ", "a b   c", " a b", "a b "} {
		wantNoSplit(t, line)
	}
	for _, k := range lines {
		wantNoSplit(t, " "+k.line)
		wantNoSplit(t, k.line+" ")
		wantNoSplit(t, k.line+"  "+k.line)
	}
}

// P1.4: only the byte 32 parts pieces, and a piece with a byte that no word has spoils the line, whichever piece it is.
func TestSplitBytes(t *testing.T) {
	for b := range 256 {
		c := string([]byte{byte(b)})
		switch {
		case b == 32:
			wantSplit(t, "x"+c+"y", []string{"x", "y"})
		case 33 <= b && b <= 126:
			wantSplit(t, c, []string{c})
			wantSplit(t, "x"+c+"y", []string{"x" + c + "y"})
			wantSplit(t, "x "+c+" y", []string{"x", c, "y"})
		default:
			for _, line := range []string{c, "x" + c + "y", c + " y", "x " + c, "x " + c + " y", "x" + c + " y z", "x y" + c + " z", "x y z" + c} {
				wantNoSplit(t, line)
			}
		}
	}
	for _, line := range []string{"a\tb", "put 1\r\n", "a\u00a0b", "a é", "é a", "a é b", "a\u2003b", "a \xe3\x80\x80 b"} {
		wantNoSplit(t, line)
	}
}

// P1.4 and R4: what a caller writes into an answer, or behind its end, no other answer shows.
func TestSplitMemory(t *testing.T) {
	first, _ := Split("put 1 2 3 4")
	second, _ := Split("put 1 2 3 4")
	for i := range first {
		first[i] = "spoilt"
	}
	_ = append(first, "spoilt", "spoilt")
	wantWords := []string{"put", "1", "2", "3", "4"}
	if !slices.Equal(second, wantWords) {
		t.Errorf("another answer shows what was written: %q", second)
	}
	wantSplit(t, "put 1 2 3 4", wantWords)
}

// P1.5: words.
func TestJoin(t *testing.T) {
	for _, k := range lines {
		if got, ok := Join(k.words); got != k.line || !ok {
			t.Errorf("Join(%q) = %q, %v; want %q", k.words, got, ok, k.line)
		}
	}
}

// P1.5: no words, and texts that are none, whichever of the list it is.
func TestJoinRefused(t *testing.T) {
	wrong := [][]string{nil, {}, {""}, {"", ""}, {" "}, {"a b"}, {"a", "b c"}, {"a", ""}, {"", "a"}, {"a", "", "b"}, {"é"}, {"a", "é"}, {"a\r\n"}}
	for b := range 256 {
		if c := string([]byte{byte(b)}); b < 33 || b > 126 {
			wrong = append(wrong, []string{c}, []string{c, "x"}, []string{"x", c}, []string{"x", "y" + c, "z"}, []string{"x", c + "y"})
		}
	}
	for _, words := range wrong {
		if got, ok := Join(words); got != "" || ok {
			t.Errorf("Join(%q) = %q, %v; want empty, false", words, got, ok)
		}
	}
}

// P1.5 and R4: the list that is handed in stays as it is, the spare room behind its end too.
func TestJoinMemory(t *testing.T) {
	room := []string{"put", "1", "spare", "room"}
	got, _ := Join(room[:2])
	if got != "put 1" || !slices.Equal(room, []string{"put", "1", "spare", "room"}) {
		t.Errorf("Join = %q, and the list is %q", got, room)
	}
	room[0] = "use"
	if got != "put 1" {
		t.Errorf("what was answered is now %q", got)
	}
}

// everyText calls f with each text of at most so many of the letters, which have one byte each.
func everyText(letters []string, most int, f func(s string)) {
	var grow func(s string)
	grow = func(s string) {
		f(s)
		if len(s) == most {
			return
		}
		for _, letter := range letters {
			grow(s + letter)
		}
	}
	grow("")
}

// P1.6: Join of what Split told is the line; and Split tells words just of a line whose pieces all are words.
func TestSplitThenJoin(t *testing.T) {
	right := 0
	everyText([]string{" ", "a", "~", "\t", "\xff"}, 6, func(line string) {
		words, ok := Split(line)
		pieces := strings.Split(line, " ")
		if want := !slices.ContainsFunc(pieces, func(p string) bool { return !Word(p) }); ok != want {
			t.Fatalf("Split(%q) says %v", line, ok)
		}
		if !ok {
			return
		}
		right++
		if back, ok := Join(words); back != line || !ok {
			t.Fatalf("Join(Split(%q)) = %q, %v", line, back, ok)
		}
	})
	if right == 0 {
		t.Fatal("no line had words")
	}
}

// P1.6: Split of what Join made is the words.
func TestJoinThenSplit(t *testing.T) {
	texts := []string{"a", "bc", "!", "~~", "10", "", " ", "a b", "\x7f"}
	for _, x := range texts {
		for _, y := range texts {
			for _, z := range texts {
				for _, words := range [][]string{{x}, {x, y}, {x, y, z}} {
					line, ok := Join(words)
					if !ok {
						continue
					}
					wantSplit(t, line, words)
				}
			}
		}
	}
	if line, ok := Join([]string{"a", "bc", "!"}); line != "a bc !" || !ok {
		t.Errorf("Join = %q, %v", line, ok)
	}
}

// P1.6: Parse(Print(n), most) is n and true, just if 0 is at most n, and n at most most.
func TestPrintThenParse(t *testing.T) {
	all := slices.Clone(numbers)
	for _, n := range numbers {
		all = append(all, -n, -n-1)
	}
	for _, n := range all {
		for _, most := range all {
			if 0 <= n && n <= most {
				wantParse(t, Print(n), most, n, true)
			} else {
				wantParse(t, Print(n), most, 0, false)
			}
		}
	}
}

// P1.6: where Parse says n, Print(n) is the text without the zeros ahead of it, and one is left if there is nothing else.
func TestParseThenPrint(t *testing.T) {
	right := 0
	everyText([]string{"0", "1", "9", " ", "x"}, 6, func(s string) {
		n, ok := Parse(s, 99999)
		if !ok {
			return
		}
		right++
		want := strings.TrimLeft(s, "0")
		if want == "" {
			want = "0"
		}
		if Print(n) != want {
			t.Fatalf("Print(Parse(%q)) = %q; want %q", s, Print(n), want)
		}
	})
	if right == 0 {
		t.Fatal("no text was a number")
	}
}
