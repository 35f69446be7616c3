package weave

import (
	"bytes"
	"fmt"
	"slices"
	"strings"
	"testing"

	"stint/api"
)

var (
	chapters = api.Config{JobMax: 100, Segment: 256, Quota: 4096} // the chapter's
	tight    = api.Config{JobMax: 10, Segment: 256, Quota: 1024}
	wide     = api.Config{JobMax: 65535, Segment: 4096, Quota: 65536}
	great    = api.Config{JobMax: 65535, Segment: 1 << 20, Quota: 1 << 26}
)

// text is a text whose line ends are points.
func text(s string) []byte { return []byte(strings.ReplaceAll(s, ".", "\r\n")) }

// conns are the pieces of connections, each a text: its pieces are parted by a /; no text is no pieces.
func conns(list ...string) [][][]byte {
	all := make([][][]byte, len(list))
	for k, s := range list {
		if s == "" {
			continue
		}
		for piece := range strings.SplitSeq(s, "/") {
			all[k] = append(all[k], text(piece))
		}
	}
	return all
}

// sized are connections with so many pieces without bytes.
func sized(sizes ...int) [][][]byte {
	var all [][][]byte
	for _, n := range sizes {
		all = append(all, make([][]byte, n))
	}
	return all
}

// saidText is an outcome as a text: what was said to each connection, parted by |.
func saidText(said [][]byte) string {
	var list []string
	for _, b := range said {
		list = append(list, strings.ReplaceAll(string(b), "\r\n", "."))
	}
	return strings.Join(list, "|")
}

func saidTexts(outcomes [][][]byte) []string {
	var list []string
	for _, said := range outcomes {
		list = append(list, saidText(said))
	}
	return list
}

// show cuts what is long, so that a failure can be read.
func show(x any) string {
	text := fmt.Sprintf("%q", x)
	if len(text) > 900 {
		return text[:900] + ".."
	}
	return text
}

func sameOutcome(x, y [][]byte) bool { return slices.EqualFunc(x, y, bytes.Equal) }

func sameOutcomes(x, y [][][]byte) bool { return slices.EqualFunc(x, y, sameOutcome) }

func wantMany(t *testing.T, pieces [][][]byte, want int) {
	t.Helper()
	if n, few := Many(pieces); n != want || few != (want > 0) {
		t.Errorf("%d connections: %d, %v; want %d", len(pieces), n, few, want)
	}
}

// wantAll: these outcomes, with whatever workers.
func wantAll(t *testing.T, c api.Config, pieces [][][]byte, want ...string) {
	t.Helper()
	for workers := 1; workers <= 16; workers++ {
		got, err := All(c, pieces, workers)
		if err != api.OK || !slices.Equal(saidTexts(got), want) {
			t.Errorf("%s, %d workers: %s, %d; want %s", show(pieces), workers, show(saidTexts(got)), err, show(want))
		}
		for _, said := range got {
			if len(said) != len(pieces) {
				t.Errorf("%s, %d workers: an outcome is of %d connections", show(pieces), workers, len(said))
			}
		}
	}
}

// wantSame tells all outcomes, and holds them against those of the plain weave.
func wantSame(t *testing.T, what string, c api.Config, pieces [][][]byte, workers int) [][][]byte {
	t.Helper()
	got, err := All(c, pieces, workers)
	if err != api.OK {
		t.Fatalf("%s, %d workers: %d", what, workers, err)
	}
	if want := plainAll(t, c, pieces); !sameOutcomes(got, want) {
		t.Fatalf("%s, %d workers: %s; want %s", what, workers, show(saidTexts(got)), show(saidTexts(want)))
	}
	return got
}

// wantRefused: with an error nothing else is told.
func wantRefused(t *testing.T, c api.Config, pieces [][][]byte, workers int, want api.Errno) {
	t.Helper()
	if got, err := All(c, pieces, workers); err != want || len(got) != 0 {
		t.Errorf("%+v, %d connections, %d workers: %s, %d; want %d", c, len(pieces), workers, show(saidTexts(got)), err, want)
	}
}
