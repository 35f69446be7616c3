package script

import (
	"stint/api"
	"stint/digits"
	"stint/record"
)

// reader reads the lines of a play one behind the other. What is wrong in a line is its panic: an api.Errno.
type reader struct {
	play   api.Play
	headed bool // the head is read
	lines  int  // that were begun, those that are passed over too
}

func (r *reader) read(line string) {
	r.lines++
	if line == "" || line[0] == remark {
		return
	}
	list, ok := digits.Split(line)
	if !ok {
		panic(api.ErrScriptWord)
	}
	first, rest := list[0], words(list[1:])
	if r.headed {
		r.step(first, rest)
	} else {
		r.head(first, rest)
	}
}

func (r *reader) head(first string, rest words) {
	if first != headWord {
		panic(api.ErrScriptWord)
	}
	c := api.Config{JobMax: rest.number(), Segment: rest.number(), Quota: rest.number()}
	rest.end()
	if record.CheckConfig(c) != api.OK {
		panic(api.ErrScriptConfig)
	}
	r.play.Config, r.headed = c, true
}

func (r *reader) step(first string, rest words) {
	kind := kindOf(first)
	if kind == 0 {
		panic(api.ErrScriptWord)
	}
	if len(r.play.Steps) == api.MaxSteps {
		panic(api.ErrScriptMany)
	}
	r.play.Steps = append(r.play.Steps, rest.step(kind))
}

// kindOf is the kind of step whose lines begin with a word; 0, if none does.
func kindOf(word string) int {
	for kind, f := range forms {
		if f.word == word {
			return kind
		}
	}
	return 0
}

// words are those of a line that are not read yet.
type words []string

// step reads all of them as what stands behind the first word of a kind.
func (w *words) step(kind int) api.Step {
	f := forms[kind]
	s := api.Step{Kind: kind}
	if f.conn {
		s.Conn = w.number()
	}
	if f.data {
		s.Data = readData(w.next())
	}
	if f.breaks && w.has(breakWord) {
		s.Break = w.number()
		if s.Break == 0 {
			panic(api.ErrScriptField)
		}
		s.Keep = w.keep()
	}
	if f.keeps {
		s.Keep = w.keep()
	}
	w.end()
	return s
}

// next reads a word.
func (w *words) next() string {
	if len(*w) == 0 {
		panic(api.ErrScriptField)
	}
	word := (*w)[0]
	*w = (*w)[1:]
	return word
}

// has reads a word if it is that one, and tells whether it is.
func (w *words) has(word string) bool {
	if len(*w) == 0 || (*w)[0] != word {
		return false
	}
	w.next()
	return true
}

// number reads a word as a number.
func (w *words) number() int {
	n, ok := digits.Parse(w.next(), api.MaxWord)
	if !ok {
		panic(api.ErrScriptField)
	}
	return n
}

// keep reads a keep, behind which no other word may stand.
func (w *words) keep() []int {
	if !w.has(keepWord) {
		return nil
	}
	list := []int{w.number()}
	for len(*w) > 0 {
		list = append(list, w.number())
	}
	return list
}

// end wants that no word is left.
func (w *words) end() {
	if len(*w) > 0 {
		panic(api.ErrScriptField)
	}
}
