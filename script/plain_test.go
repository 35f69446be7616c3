package script

import (
	"fmt"
	"math/big"
	"regexp"
	"strconv"
	"strings"

	"stint/api"
)

// The chapter's forms as expressions; N is a number, D the bytes of DATA, B a break, K a keep.
var (
	wordsForm = regexp.MustCompile(`^[!-~]+( [!-~]+)*\z`)
	headForm  = expression(`stint N N N`)
	stepForms = map[string]*regexp.Regexp{
		"open":  expression(`open N`),
		"feed":  expression(`feed N =DB`),
		"hang":  expression(`hang NB`),
		"tick":  expression(`tickB`),
		"drain": expression(`drain`),
		"crash": expression(`crashK`),
		"start": expression(`startB`),
	}
	stepKinds = map[string]int{"open": 1, "feed": 2, "hang": 3, "tick": 4, "drain": 5, "crash": 6, "start": 7}
	byteForm  = regexp.MustCompile(`\\x..|\\.|.`)
)

func expression(form string) *regexp.Regexp {
	form = strings.ReplaceAll(form, "B", `(?: break (?P<break>N)K)?`)
	form = strings.ReplaceAll(form, "K", `(?: keep(?P<keep>(?: N)+))?`)
	form = strings.ReplaceAll(form, " N", ` (?P<number>N)`)
	form = strings.ReplaceAll(form, "D", `(?P<data>(?:[!-\[\]-~]|\\[srn\\]|\\x[0-9a-f][0-9a-f])*)`)
	form = strings.ReplaceAll(form, "N", `[0-9]+`)
	return regexp.MustCompile("^" + form + `\z`)
}

// plainNumber reads a number of any size, and tells whether it is at most MaxWord.
func plainNumber(word string) (int, bool) {
	n, ok := new(big.Int).SetString(word, 10)
	if !ok || n.Cmp(big.NewInt(maxWord)) > 0 {
		return 0, false
	}
	return int(n.Int64()), true
}

func plainNumbers(words []string) ([]int, bool) {
	var list []int
	for _, word := range words {
		n, ok := plainNumber(word)
		if !ok {
			return nil, false
		}
		list = append(list, n)
	}
	return list, true
}

// plainData reads bytes that have DATA's form.
func plainData(text string) []byte {
	meant := byteForm.ReplaceAllStringFunc(text, func(form string) string {
		switch {
		case form == `\s`:
			return " "
		case form == `\r`:
			return "\r"
		case form == `\n`:
			return "\n"
		case form == `\\`:
			return `\`
		case len(form) == 4:
			n, _ := strconv.ParseUint(form[2:], 16, 8)
			return string([]byte{byte(n)})
		}
		return form
	})
	return []byte(meant)
}

// plainStep reads a line that Split takes, and whose first word is a step's.
func plainStep(line string) (api.Step, bool) {
	word, _, _ := strings.Cut(line, " ")
	form := stepForms[word]
	found := form.FindStringSubmatch(line)
	if found == nil {
		return api.Step{}, false
	}
	s := api.Step{Kind: stepKinds[word]}
	right := true
	for i, name := range form.SubexpNames() {
		ok := true
		switch {
		case found[i] == "":
		case name == "break":
			s.Break, ok = plainNumber(found[i])
			ok = ok && s.Break > 0
		case name == "keep":
			s.Keep, ok = plainNumbers(strings.Fields(found[i]))
		case name == "data":
			s.Data = plainData(found[i])
		case name == "number" && i == 1 && strings.Contains("open feed hang", word):
			s.Conn, ok = plainNumber(found[i])
		}
		right = right && ok
	}
	return s, right
}

func plainConfig(c api.Config) bool {
	return c.JobMax >= 1 && c.JobMax <= 65535 && c.Segment >= 128 && c.Segment <= 1048576 && c.Quota >= 1024 && c.Quota <= 67108864 && c.Quota/4 >= c.Segment
}

// readPlainly reads a text by the chapter's words, with other means: expressions, and numbers of any size.
func readPlainly(text string) (api.Play, int, api.Errno) {
	if len(text) > 1048576 {
		return api.Play{}, 0, 193
	}
	lines := strings.Split(text, "\n")
	if last := len(lines) - 1; lines[last] == "" {
		lines = lines[:last]
	}
	var p api.Play
	for i, line := range lines {
		if line == "" || strings.HasPrefix(line, "#") {
			continue
		}
		word, _, _ := strings.Cut(line, " ")
		if !wordsForm.MatchString(line) || p.Config.JobMax == 0 && word != "stint" || p.Config.JobMax > 0 && stepKinds[word] == 0 {
			return api.Play{}, i + 1, 191
		}
		if p.Config.JobMax == 0 {
			numbers, ok := plainNumbers(strings.Fields(line)[1:])
			if !ok || !headForm.MatchString(line) {
				return api.Play{}, i + 1, 192
			}
			p.Config = api.Config{JobMax: numbers[0], Segment: numbers[1], Quota: numbers[2]}
			if !plainConfig(p.Config) {
				return api.Play{}, i + 1, 190
			}
			continue
		}
		if len(p.Steps) >= 4000 {
			return api.Play{}, i + 1, 194
		}
		s, ok := plainStep(line)
		if !ok {
			return api.Play{}, i + 1, 192
		}
		p.Steps = append(p.Steps, s)
	}
	if p.Config.JobMax == 0 {
		return api.Play{}, 0, 191
	}
	return p, 0, 0
}

// plainLine writes a step by the chapter's table; whatever a step has is written, so that a field too many makes a line that is wrong, or another step's.
func plainLine(s api.Step) string {
	word := []string{"none", "open", "feed", "hang", "tick", "drain", "crash", "start", "none"}[min(max(s.Kind, 0), 8)]
	line := word
	if s.Conn != 0 || s.Kind >= 1 && s.Kind <= 3 {
		line += fmt.Sprint(" ", s.Conn)
	}
	if len(s.Data) > 0 || s.Kind == 2 {
		line += " ="
		for _, c := range s.Data {
			form := fmt.Sprintf("%q", string([]byte{c}))
			switch form = form[1 : len(form)-1]; {
			case form == " ":
				form = `\s`
			case form == `\"`:
				form = `"`
			case len(form) == 2 && !strings.Contains(`\r\n\\`, form), len(form) == 4, c > 126:
				form = fmt.Sprintf(`\x%02x`, c)
			}
			line += form
		}
	}
	if s.Break != 0 {
		line += fmt.Sprint(" break ", s.Break)
	}
	if len(s.Keep) > 0 {
		line += " keep"
		for _, n := range s.Keep {
			line += fmt.Sprint(" ", n)
		}
	}
	return line + "\n"
}

// writePlainly writes a play: a step may be written just if its line is read as that step.
func writePlainly(p api.Play) (string, api.Errno) {
	if !plainConfig(p.Config) {
		return "", 190
	}
	if len(p.Steps) > 4000 {
		return "", 194
	}
	text := fmt.Sprintln("stint", p.Config.JobMax, p.Config.Segment, p.Config.Quota)
	for _, s := range p.Steps {
		if s.Kind < 1 || s.Kind > 7 {
			return "", 192
		}
		line := plainLine(s)
		read, ok := plainStep(strings.TrimSuffix(line, "\n"))
		if !ok || !sameStep(read, s) {
			return "", 192
		}
		text += line
		if len(text) > 1048576 {
			return "", 193
		}
	}
	return text, 0
}
