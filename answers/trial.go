package answers

import (
	"sort"

	"stint/api"
	"stint/digits"
	"stint/names"
)

// How bytes stand to a form, as far as it was asked for.
const (
	good  = iota // they have it
	short        // they end ahead of its end
	wrong        // one of them can't stand there
)

// trial holds bytes against a form, part by part, till they are short or one of them is wrong.
type trial struct {
	b     []byte
	at    int // good: where the next part begins; short: the place of the next byte that can be wrong or can end a reply; wrong: that of the wrong one
	stand int
}

// read is the reply that bytes begin with. Its Body is a piece of them.
func read(b []byte) (api.Reply, trial) {
	furthest := trial{b: b, stand: wrong}
	for kind := 1; kind <= api.Replies; kind++ {
		r, t := readKind(kind, b)
		if t.stand != wrong {
			// No reply is the beginning of another, so the other kinds have nothing to add.
			return r, t
		}
		furthest.at = max(furthest.at, t.at)
	}
	return api.Reply{}, furthest
}

// readKind is the reply of a kind that bytes begin with.
func readKind(kind int, b []byte) (api.Reply, trial) {
	f := forms[kind]
	t := trial{b: b}
	r := api.Reply{Kind: kind}
	t.text(f.word)
	if f.id > 0 {
		r.Id = t.number(1, f.id)
	}
	if f.number > 0 {
		r.Number = t.number(0, f.number)
	}
	if f.tube {
		r.Tube = t.word(names.Valid)
	}
	if f.body > 0 {
		size := t.number(0, f.body)
		t.text(end)
		r.Body = t.take(size)
	}
	t.text(end)
	return r, t
}

// text takes just this text.
func (t *trial) text(s string) {
	for i := 0; i < len(s) && t.stand == good; i++ {
		switch {
		case t.at == len(t.b):
			t.stand = short
		case t.b[t.at] != s[i]:
			t.stand = wrong
		default:
			t.at++
		}
	}
}

// number takes a blank and a number that is written without zeros ahead.
func (t *trial) number(least, most int) int {
	word := t.word(func(s string) bool {
		n, ok := digits.Parse(s, most)
		return ok && n >= least && digits.Print(n) == s
	})
	n, _ := digits.Parse(word, most)
	return n
}

// word takes a blank and the longest word that fits. (Of a word that fits each beginning has to fit, but the empty one, and none may be longer than a name.)
func (t *trial) word(fits func(string) bool) string {
	t.text(" ")
	if t.stand != good {
		return ""
	}
	s := string(t.b[t.at:min(t.at+api.MaxName, len(t.b))])
	n := sort.Search(len(s), func(i int) bool { return !fits(s[:i+1]) })
	t.at += n
	switch {
	case t.at == len(t.b):
		t.stand = short // what comes may be of the word too
	case n == 0:
		t.stand = wrong
	}
	return s[:n]
}

// take takes so many bytes, whatever they are.
func (t *trial) take(size int) []byte {
	if t.stand != good {
		return nil
	}
	start := t.at
	t.at += size
	if t.at > len(t.b) {
		t.stand = short
		return nil
	}
	return t.b[start:t.at]
}
