package hall

import (
	"testing"
	"time"

	"stint/api"
)

// wantNone: nothing comes from a connection as long as it is not its turn.
func wantNone(t *testing.T, x *comer) {
	t.Helper()
	select {
	case piece, open := <-x.pieces:
		t.Fatalf("%q came, %v", piece, open)
	case <-time.After(10 * time.Millisecond):
	}
}

func wantPiece(t *testing.T, x *comer, want string) {
	t.Helper()
	x.turn <- struct{}{}
	if piece, open := <-x.pieces; !open || string(piece) != want {
		t.Fatalf("%q came, %v; want %q", piece, open, want)
	}
}

func wantClosed(t *testing.T, x *comer) {
	t.Helper()
	select {
	case piece, open := <-x.pieces:
		if open {
			t.Fatalf("%q came behind the last one", piece)
		}
	case <-time.After(10 * time.Second):
		t.Fatalf("the channel is not closed")
	}
}

// The chapter's ways: a connection sends a piece whenever it is its turn, and closes its channel behind the last one, or when it is hung up.
func TestSpeak(t *testing.T) {
	for hungAt := range 4 {
		x := newConn(7, 3)
		go x.speak(conns("a/b/c")[0])
		for i, piece := range []string{"a", "b", "c"} {
			if i == hungAt {
				x.hangUp()
				break
			}
			wantNone(t, x)
			wantPiece(t, x, piece)
		}
		wantClosed(t, x)
	}
	x := newConn(0, 0)
	go x.speak(nil)
	wantClosed(t, x)
}

// P23.2: what there is ahead of the first turn: what is said can't show at which clock the house was begun.
func TestNewKeeper(t *testing.T) {
	k := newKeeper(ten, api.Plan{Pieces: conns("a/b", "", "c"), Ticks: 5})
	if k.house.Now() != 0 || len(k.house.Conns()) != 3 || len(k.house.Jobs()) != 0 || len(k.turns) != 0 {
		t.Errorf("the clock is %d, there are %v, %d turns", k.house.Now(), k.house.Conns(), len(k.turns))
	}
}
