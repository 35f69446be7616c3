package judge

import (
	"fmt"
	"reflect"
	"slices"
	"strconv"
	"strings"
	"testing"

	"stint/api"
)

var mild = api.Config{JobMax: 100, Segment: 256, Quota: 4096} // the chapter's

// text is a text whose line ends are points.
func text(s string) []byte { return []byte(strings.ReplaceAll(s, ".", "\r\n")) }

// history reads a history, its events parted by semicolons. O a connection comes, H it is heard, D a command of it is done, S something is said to it, X it is hung up (its number stands right behind, what is heard or said behind a blank; a point is a line's end); T, Down and Up with the clock; Refused; Drains. QC of a connection C is H, D and S: what is heard, a > and what is said.
func history(s string) []api.Event {
	var list []api.Event
	for _, word := range strings.Split(s, ";") {
		word = strings.TrimLeft(word, " \n\t")
		if word == "" {
			continue
		}
		list = append(list, eventsOf(word)...)
	}
	return list
}

func eventsOf(word string) []api.Event {
	head, data, _ := strings.Cut(word, " ")
	name := strings.TrimRight(head, "0123456789")
	number, _ := strconv.Atoi(head[len(name):])
	if name == "Q" {
		heard, said, _ := strings.Cut(data, ">")
		return []api.Event{{Kind: api.EvHeard, Conn: number, Data: text(heard)}, {Kind: api.EvDone, Conn: number}, {Kind: api.EvSaid, Conn: number, Data: text(said)}}
	}
	kinds := map[string]int{"O": api.EvOpened, "H": api.EvHeard, "S": api.EvSaid, "X": api.EvHung, "T": api.EvTicked, "Down": api.EvDown, "Up": api.EvUp, "Refused": api.EvRefused, "Drains": api.EvDrains, "D": api.EvDone}
	kind := kinds[name]
	if kind == 0 {
		panic(fmt.Sprintf("no event: %q", word))
	}
	e := api.Event{Kind: kind}
	switch kind {
	case api.EvTicked, api.EvDown, api.EvUp:
		e.Now = number
	default:
		e.Conn = number
	}
	if kind == api.EvHeard || kind == api.EvSaid {
		e.Data = text(data)
	}
	return []api.Event{e}
}

// show is an event as a text.
func show(e api.Event) string {
	return fmt.Sprintf("%s%d/%d %q", [...]string{"?", "O", "H", "S", "X", "T", "Down", "Up", "Refused", "Drains", "D"}[e.Kind], e.Conn, e.Now, e.Data)
}

// showAll is a history as a text, up to a place.
func showAll(l []api.Event, to int) string {
	var b strings.Builder
	for at, e := range l[:min(to+1, len(l))] {
		fmt.Fprintf(&b, "%d: %s\n", at, show(e))
	}
	return b.String()
}

var ruleNames = [...]string{"?", "Form", "Answer", "Again", "Gone", "Body", "Hold", "Time", "Tube", "Order", "Lost"}

// words are faults as a text: of each the event's place, the rule, and the job's id, if it is not 0.
func words(faults []api.Fault) string {
	var list []string
	for _, f := range faults {
		word := fmt.Sprint(f.At, " ", ruleNames[f.Rule])
		if f.Id != 0 {
			word += fmt.Sprint(" ", f.Id)
		}
		list = append(list, word)
	}
	return strings.Join(list, ", ")
}

// wantAll holds the faults of a history against a text, and those of First and of each beginning (P21.7, P21.8), and those of the plain judge.
func wantAll(t *testing.T, l []api.Event, want string) {
	t.Helper()
	got, err := All(mild, l)
	if err != api.OK || words(got) != want {
		t.Errorf("%s%s, %d; want %s", showAll(l, len(l)), words(got), err, want)
		return
	}
	wantFirst(t, mild, l, got)
	if len(l) < 1000 {
		wantBeginnings(t, mild, l, got)
	}
	if plain := words(plainAll(mild, l)); plain != want {
		t.Errorf("%sthe plain judge: %s; want %s", showAll(l, len(l)), plain, want)
	}
}

// wantFirst is P21.7 of a history with some faults.
func wantFirst(t *testing.T, c api.Config, l []api.Event, faults []api.Fault) {
	t.Helper()
	first, there, err := First(c, l)
	want := api.Fault{}
	if len(faults) > 0 {
		want = faults[0]
	}
	if first != want || there != (len(faults) > 0) || err != api.OK {
		t.Errorf("First = %v, %v, %d; want %v", first, there, err, want)
	}
}

// wantBeginnings is P21.8 of a history with some faults.
func wantBeginnings(t *testing.T, c api.Config, l []api.Event, faults []api.Fault) {
	t.Helper()
	for n := range len(l) {
		want := slices.DeleteFunc(slices.Clone(faults), func(f api.Fault) bool { return f.At >= n })
		got, err := All(c, l[:n])
		if err != api.OK || !slices.Equal(got, want) {
			t.Fatalf("%sof the first %d events: %s, %d; want %s", showAll(l, len(l)), n, words(got), err, words(want))
		}
	}
}

// judged holds the faults of a history, which is a text, against a text.
func judged(t *testing.T, s, want string) {
	t.Helper()
	wantAll(t, history(s), want)
}

// lastBreaks holds what the last event of a history breaks against a text (rules and ids, without the place); the ones ahead of it break nothing.
func lastBreaks(t *testing.T, s, want string) {
	t.Helper()
	l := history(s)
	if want != "" {
		var list []string
		for _, word := range strings.Split(want, ", ") {
			list = append(list, fmt.Sprint(len(l)-1, " ", word))
		}
		want = strings.Join(list, ", ")
	}
	wantAll(t, l, want)
}

// refused: both functions refuse a history so.
func refused(t *testing.T, what string, c api.Config, l []api.Event, want api.Errno) {
	t.Helper()
	if faults, err := All(c, l); err != want || len(faults) != 0 {
		t.Errorf("%s: All = %v, %d; want %d", what, faults, err, want)
	}
	if first, there, err := First(c, l); err != want || first != (api.Fault{}) || there {
		t.Errorf("%s: First = %v, %v, %d; want %d", what, first, there, err, want)
	}
}

// own are events in new memory.
func own(l []api.Event) []api.Event {
	list := slices.Clone(l)
	for i, e := range list {
		list[i].Data = slices.Clone(e.Data)
	}
	return list
}

func same(x, y any) bool { return reflect.DeepEqual(x, y) }
