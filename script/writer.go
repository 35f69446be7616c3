package script

import (
	"stint/api"
	"stint/digits"
)

// checkStep panics with an api.Errno if a step has no line.
func checkStep(s api.Step) {
	if s.Kind < api.StOpen || s.Kind > api.StStart {
		panic(api.ErrScriptField)
	}
	f := forms[s.Kind]
	checkNumber(s.Conn, f.conn)
	checkNumber(s.Break, f.breaks)
	if len(s.Data) > 0 && !f.data {
		panic(api.ErrScriptField)
	}
	// A kind without a break has no Break here any more, so what is left to ask of a keep holds for all kinds.
	if len(s.Keep) > 0 && !f.keeps && s.Break == 0 {
		panic(api.ErrScriptField)
	}
	for _, n := range s.Keep {
		checkNumber(n, true)
	}
}

// checkNumber panics unless a number that a step has may stand in a line, and one that it has not is 0.
func checkNumber(n int, has bool) {
	if n < 0 || n > api.MaxWord || n != 0 && !has {
		panic(api.ErrScriptField)
	}
}

// writer writes a play's text, and panics with an api.Errno where it grows too long; so no more is ever laid down, however much a step has.
type writer struct{ text []byte }

func (w *writer) head(c api.Config) {
	w.add(headWord)
	w.number(c.JobMax)
	w.number(c.Segment)
	w.number(c.Quota)
	w.add(lineEnd)
}

// step writes the line of a step that checkStep takes.
func (w *writer) step(s api.Step) {
	f := forms[s.Kind]
	w.add(f.word)
	if f.conn {
		w.number(s.Conn)
	}
	if f.data {
		w.word(dataSign)
		for _, c := range s.Data {
			w.add(shortest(c))
		}
	}
	if s.Break > 0 {
		w.word(breakWord)
		w.number(s.Break)
	}
	if len(s.Keep) > 0 {
		w.word(keepWord)
	}
	for _, n := range s.Keep {
		w.number(n)
	}
	w.add(lineEnd)
}

func (w *writer) number(n int) { w.word(digits.Print(n)) }

// word writes a word that is not the first one of its line.
func (w *writer) word(word string) { w.add(" " + word) }

func (w *writer) add(piece string) {
	if len(w.text)+len(piece) > api.MaxPlay {
		panic(api.ErrScriptLong)
	}
	w.text = append(w.text, piece...)
}
