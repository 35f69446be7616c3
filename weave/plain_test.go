package weave

import (
	"bytes"
	"fmt"
	"slices"
	"testing"

	"stint/api"
	"stint/house"
)

// plain is a weave that is made by one alone: from each place it goes on with each connection that has pieces left, in a house of its own.
type plain struct {
	t      *testing.T
	pieces [][][]byte
	orders [][]int
	ends   map[string][][]byte // the outcomes, by what they are as a text
}

// place is how far an order is.
type place struct {
	h     *house.House
	order []int
	came  []int
	hung  []bool
	said  [][]byte
}

func (x *place) clone() *place {
	y := &place{h: x.h.Clone(), order: slices.Clone(x.order), came: slices.Clone(x.came), hung: slices.Clone(x.hung)}
	for _, b := range x.said {
		y.said = append(y.said, bytes.Clone(b))
	}
	return y
}

// feed lets the next piece of a connection come; one that was hung up is not fed.
func (w *plain) feed(x *place, conn int) {
	w.t.Helper()
	piece := w.pieces[conn][x.came[conn]]
	x.came[conn]++
	x.order = append(x.order, conn)
	if x.hung[conn] {
		return
	}
	outs, err := x.h.Feed(conn, piece)
	if err != api.OK {
		w.t.Fatalf("Feed(%d) = %d", conn, err)
	}
	for _, out := range outs {
		switch out.Kind {
		case api.OutSay:
			x.said[out.Conn] = append(x.said[out.Conn], out.Data...)
		case api.OutHang:
			x.hung[out.Conn] = true
		}
	}
}

func (w *plain) walk(x *place) {
	w.t.Helper()
	over := true
	for conn, list := range w.pieces {
		if x.came[conn] < len(list) {
			over = false
			y := x.clone()
			w.feed(y, conn)
			w.walk(y)
		}
	}
	if over {
		w.orders = append(w.orders, x.order)
		w.ends[fmt.Sprintf("%q", x.said)] = x.said
	}
}

func newPlain(t *testing.T, c api.Config, pieces [][][]byte) *plain {
	t.Helper()
	h, _, err := house.New(c, 0)
	if err != api.OK {
		t.Fatalf("house.New = %d", err)
	}
	for conn := range pieces {
		if err := h.Join(conn); err != api.OK {
			t.Fatalf("Join(%d) = %d", conn, err)
		}
	}
	w := &plain{t: t, pieces: pieces, ends: map[string][][]byte{}}
	n := len(pieces)
	w.walk(&place{h: h, came: make([]int, n), hung: make([]bool, n), said: make([][]byte, n)})
	return w
}

// ahead tells whether one outcome stands ahead of another one.
func ahead(x, y [][]byte) bool {
	for conn := range x {
		for i := 0; i < len(x[conn]) || i < len(y[conn]); i++ {
			if i == len(x[conn]) || i == len(y[conn]) {
				return i == len(x[conn])
			}
			if x[conn][i] != y[conn][i] {
				return x[conn][i] < y[conn][i]
			}
		}
	}
	return false
}

// sorted are the outcomes as they have to be told.
func (w *plain) sorted() [][][]byte {
	var list [][][]byte
	for _, said := range w.ends {
		at := 0
		for at < len(list) && ahead(list[at], said) {
			at++
		}
		list = slices.Insert(list, at, said)
	}
	return list
}

// plainAll is what All has to tell of what it does not refuse.
func plainAll(t *testing.T, c api.Config, pieces [][][]byte) [][][]byte {
	t.Helper()
	return newPlain(t, c, pieces).sorted()
}
