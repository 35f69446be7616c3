package client

import (
	"errors"
	"fmt"
	"reflect"
	"strings"
	"testing"

	"stint/api"
)

// doers are the kinds of replies that do commands, by the commands' words, as the chapter's table has them.
const doers = `
put: 1
use, list-tube-used: 2
reserve, reserve-with-timeout, reserve-job: 3
delete: 6
release: 7
bury: 8
touch: 9
watch, ignore: 10
peek, peek-ready, peek-delayed, peek-buried: 12
kick: 13
kick-job: 14
pause-tube: 15
stats-job, stats-tube, stats, list-tubes, list-tubes-watched: 16
quit: 0`

// The words of the commands, in the order of their kinds, from 1 on.
const verbWords = "put use reserve reserve-with-timeout reserve-job delete release bury touch watch ignore peek peek-ready peek-delayed peek-buried kick kick-job stats-job stats-tube stats list-tubes list-tube-used list-tubes-watched pause-tube quit"

// doerOf is the kind of the reply that does a kind of command; 0: none.
func doerOf(t *testing.T, kind int) int {
	t.Helper()
	verb := strings.Fields(verbWords)[kind-1]
	for _, row := range strings.Split(strings.TrimSpace(doers), "\n") {
		list, reply, _ := strings.Cut(row, ": ")
		for _, word := range strings.Split(list, ", ") {
			if word == verb {
				var n int
				fmt.Sscan(reply, &n)
				return n
			}
		}
	}
	t.Fatalf("%s is in no row", verb)
	return 0
}

// allKinds are the kinds of replies, and numbers that are none.
func allKinds() []int {
	list := append([]int(nil), wrongKinds...)
	for kind := 1; kind <= api.Replies; kind++ {
		list = append(list, kind)
	}
	return append(list, 24, 25)
}

// wantFault holds a Fault against whether it should be none.
func wantFault(t *testing.T, kind int, r api.Reply, done bool) {
	t.Helper()
	err := Fault(kind, r)
	if done {
		if err != nil {
			t.Errorf("Fault(%d, %+v) = %v", kind, r, err)
		}
		return
	}
	f, is := err.(*Refusal)
	if !is || f == nil || *f != (Refusal{kind, r.Kind}) {
		t.Errorf("Fault(%d, %+v) = %#v", kind, r, err)
	}
}

// P22.1: each kind of command with each kind of reply.
func TestFault(t *testing.T) {
	count := 0
	for kind := 1; kind <= api.Commands; kind++ {
		doer := doerOf(t, kind)
		for _, reply := range allKinds() {
			done := doer != 0 && reply == doer
			wantFault(t, kind, api.Reply{Kind: reply}, done)
			if done {
				count++
			}
		}
	}
	if count != 24 {
		t.Errorf("%d commands are done by a reply", count)
	}
}

// P22.1: no reply does what is no command, nor a quit; also not one that is none.
func TestFaultOfNoCommand(t *testing.T) {
	for _, kind := range append([]int{api.CmdQuit}, wrongKinds...) {
		for _, reply := range allKinds() {
			wantFault(t, kind, api.Reply{Kind: reply}, false)
		}
	}
}

// P22.1: nothing but the Kind is looked at.
func TestFaultLooksAtKind(t *testing.T) {
	for _, r := range []api.Reply{{Id: -1}, {Number: 1 << 60}, {Tube: "-"}, {Body: []byte("x")}, {Id: 1, Number: 17, Tube: "NOT_FOUND", Body: []byte{}}} {
		for kind := 1; kind < api.CmdQuit; kind++ {
			r.Kind = doerOf(t, kind)
			wantFault(t, kind, r, true)
			r.Kind = api.RepNotFound
			wantFault(t, kind, r, false)
		}
		r.Kind = 0
		wantFault(t, api.CmdQuit, r, false)
	}
}

// R4: each refusal is the caller's own.
func TestFaultIsNew(t *testing.T) {
	x := Fault(api.CmdDelete, api.Reply{Kind: api.RepNotFound}).(*Refusal)
	y := Fault(api.CmdDelete, api.Reply{Kind: api.RepNotFound}).(*Refusal)
	x.Cmd, x.Reply = 99, 99
	z := Fault(api.CmdDelete, api.Reply{Kind: api.RepNotFound}).(*Refusal)
	if x == y || *y != (Refusal{api.CmdDelete, api.RepNotFound}) || *z != *y {
		t.Errorf("%+v, %+v, %+v", *x, *y, *z)
	}
}

// reasons are the texts of the errors by the kinds of replies; all others are not the protocol.
var reasons = map[int]string{
	17: "not found", 18: "out of memory", 23: "draining", 22: "too big", 4: "a reservation ends soon", 5: "timed out", 11: "not ignored", 8: "buried",
}

func reasonOf(reply int) string {
	if s, there := reasons[reply]; there {
		return s
	}
	return "not the protocol"
}

// The eleven errors are values of errors.New, each its own, with the chapter's texts.
func TestErrors(t *testing.T) {
	texts := []string{"not found", "out of memory", "draining", "too big", "a reservation ends soon", "timed out", "not ignored", "buried", "not the protocol", "no answer yet", "closed"}
	for i, x := range eleven() {
		if x.Error() != texts[i] || reflect.TypeOf(x) != reflect.TypeOf(errors.New("")) {
			t.Errorf("the error %d is %#v; want %q", i, x, texts[i])
		}
		for k, y := range eleven() {
			if errors.Is(x, y) != (i == k) {
				t.Errorf("of %q and %q one is the other", x, y)
			}
		}
	}
}

// P22.2, P22.9: what a refusal unwraps to hangs on its Reply alone; by errors.Is it is just one of the first nine errors.
func TestUnwrap(t *testing.T) {
	for _, kind := range []int{api.CmdPut, api.CmdBury, api.CmdRelease, api.CmdDelete, api.CmdQuit, 0, 26, -1} {
		for _, reply := range allKinds() {
			f := &Refusal{kind, reply}
			err := f.Unwrap()
			if err == nil || err.Error() != reasonOf(reply) {
				t.Errorf("%+v unwraps to %v; want %q", *f, err, reasonOf(reply))
			}
			for i, x := range eleven() {
				if is := errors.Is(f, x); is != (x.Error() == reasonOf(reply)) || is && (i > 8 || err != x) {
					t.Errorf("%+v: errors.Is of %q = %v", *f, x, is)
				}
			}
			var g *Refusal
			if !errors.As(error(f), &g) || g != f || *f != (Refusal{kind, reply}) {
				t.Errorf("errors.As of %+v: %v", *f, g)
			}
		}
	}
}

// P22.2: the text of a refusal: the verb and the reason; of what is no command there is no verb.
func TestRefusalText(t *testing.T) {
	for _, reply := range allKinds() {
		for i, verb := range strings.Fields(verbWords) {
			if got, want := (&Refusal{i + 1, reply}).Error(), verb+": "+reasonOf(reply); got != want {
				t.Errorf("the text is %q; want %q", got, want)
			}
		}
		for _, kind := range wrongKinds {
			if got, want := (&Refusal{kind, reply}).Error(), ": "+reasonOf(reply); got != want {
				t.Errorf("the text is %q; want %q", got, want)
			}
		}
	}
}
