package hall

import (
	"bytes"
	"fmt"
	"slices"
	"strings"
	"testing"

	"stint/api"
)

var (
	ten   = api.Config{JobMax: 10, Segment: 256, Quota: 1024} // the chapter's
	small = api.Config{JobMax: 100, Segment: 256, Quota: 1024}
	wide  = api.Config{JobMax: 65535, Segment: 4096, Quota: 65536}
	great = api.Config{JobMax: 65535, Segment: 1 << 20, Quota: 1 << 26}
)

// text is a text whose line ends are points.
func text(s string) []byte { return []byte(strings.ReplaceAll(s, ".", "\r\n")) }

// conns are the pieces of connections, each a text: its pieces are parted by a /; no text is no pieces.
func conns(list ...string) [][][]byte {
	all := make([][][]byte, len(list))
	for k, s := range list {
		if s == "" {
			continue
		}
		for piece := range strings.SplitSeq(s, "/") {
			all[k] = append(all[k], text(piece))
		}
	}
	return all
}

// saidText is what was said as a text: that of each connection, parted by |.
func saidText(said [][]byte) string {
	var list []string
	for _, b := range said {
		list = append(list, strings.ReplaceAll(string(b), "\r\n", "."))
	}
	return strings.Join(list, "|")
}

// turnsText are turns as a text: of each the connection, or a t, and the piece.
func turnsText(turns []api.Turn) string {
	var list []string
	for _, x := range turns {
		who := fmt.Sprint(x.Conn)
		if x.Conn == -1 {
			who = "t"
		}
		list = append(list, fmt.Sprint(who, ":", x.Piece))
	}
	return strings.Join(list, " ")
}

// show cuts what is long, so that a failure can be read.
func show(x any) string {
	text := fmt.Sprintf("%+v", x)
	if len(text) > 900 {
		return text[:900] + ".."
	}
	return text
}

// wantRun runs a plan, which must say and turn as the texts have it.
func wantRun(t *testing.T, c api.Config, p api.Plan, said, turns string) {
	t.Helper()
	got, order, err := Run(c, p)
	if err != api.OK || len(got) != len(p.Pieces) {
		t.Fatalf("%s: %d, of %d connections", show(p), err, len(got))
	}
	if saidText(got) != said {
		t.Errorf("Picks %s, Ticks %d: said is %s; want %s", show(p.Picks), p.Ticks, show(saidText(got)), show(said))
	}
	if turnsText(order) != turns {
		t.Errorf("Picks %s, Ticks %d: the turns are %s; want %s", show(p.Picks), p.Ticks, show(turnsText(order)), show(turns))
	}
}

// wantTurns runs a plan of which the turns alone are looked at.
func wantTurns(t *testing.T, p api.Plan, turns string) {
	t.Helper()
	said, _, _ := Run(ten, p)
	wantRun(t, ten, p, saidText(said), turns)
}

// wantRefused: with an error nothing else is told.
func wantRefused(t *testing.T, c api.Config, p api.Plan, want api.Errno) {
	t.Helper()
	said, turns, err := Run(c, p)
	if err != want || len(said) != 0 || len(turns) != 0 {
		t.Errorf("%+v, %d connections, Ticks %d: %s, %s, %d; want %d", c, len(p.Pieces), p.Ticks, saidText(said), turnsText(turns), err, want)
	}
}

func sameSaid(x, y [][]byte) bool { return slices.EqualFunc(x, y, bytes.Equal) }

// wantSame runs a plan, and holds it against what the plain hall tells.
func wantSame(t *testing.T, what string, c api.Config, p api.Plan) ([][]byte, []api.Turn) {
	t.Helper()
	said, turns, err := Run(c, p)
	if err != api.OK {
		t.Fatalf("%s: %d", what, err)
	}
	wantSaid, wantTurns := plainRun(t, c, p)
	if !slices.Equal(turns, wantTurns) {
		t.Fatalf("%s: the turns are %s; want %s", what, show(turnsText(turns)), show(turnsText(wantTurns)))
	}
	if !sameSaid(said, wantSaid) {
		t.Fatalf("%s: said is %s; want %s", what, show(saidText(said)), show(saidText(wantSaid)))
	}
	return said, turns
}
