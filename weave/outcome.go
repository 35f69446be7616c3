package weave

import (
	"slices"

	"stint/api"
	"stint/house"
)

// outcome is what was said to each connection, by their numbers; to those that there are not, nothing.
type outcome [maxConns]string

// compare: what was said to a connection tells only of outcomes that say the same to all ahead of it.
func (x outcome) compare(y outcome) int { return slices.Compare(x[:], y[:]) }

// lists is an outcome of so many connections as bytes.
func (x outcome) lists(conns int) [][]byte {
	list := make([][]byte, conns)
	for conn := range list {
		list[conn] = []byte(x[conn])
	}
	return list
}

// newHouse is a house to which so many connections have come.
func newHouse(c api.Config, conns int) *house.House {
	h, _, _ := house.New(c, 0) // the config was looked at
	for conn := range conns {
		h.Join(conn) // there are no more than may come
	}
	return h
}

// play is the outcome of an order.
func play(c api.Config, pieces [][][]byte, order []int) outcome {
	h := newHouse(c, len(pieces))
	var came [maxConns]int
	var said [maxConns][]byte
	for _, conn := range order {
		outs, _ := h.Feed(conn, pieces[conn][came[conn]]) // refused is what comes from one that was hung up: it is let by
		came[conn]++
		for _, x := range outs {
			if x.Kind == api.OutSay {
				said[x.Conn] = append(said[x.Conn], x.Data...)
			}
		}
	}
	var end outcome
	for conn, data := range said {
		end[conn] = string(data)
	}
	return end
}
