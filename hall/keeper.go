package hall

import (
	"stint/api"
	"stint/house"
)

// keeper has the house. Nobody else touches it, nor what is known here of those that come.
type keeper struct {
	house *house.House
	conns []*comer // by their numbers
	clock *comer
	end   chan struct{} // closed when all that come have ended
	picks []int
	turns []api.Turn
}

// keep lets all have their turns until there are none. Only one case of the select can ever be ready: as long as somebody has turns left it is not the end, and none but the one whose turn it is sends something.
func (k *keeper) keep() {
	for {
		x := k.next()
		select {
		case piece := <-x.pieces:
			outs, _ := k.house.Feed(x.num, piece) // who has turns left is there
			k.share(outs)
		case <-k.clock.ticked:
			k.share(k.house.Tick())
		case <-k.end:
			k.hush()
			return
		}
	}
}

// next is whose turn it is, which is told, and begins; if there is nobody, one who never sends anything.
func (k *keeper) next() *comer {
	list := k.candidates()
	if len(list) == 0 {
		return &comer{}
	}
	x := list[k.pick()%len(list)]
	k.turns = append(k.turns, api.Turn{Conn: x.num, Piece: x.came})
	x.begin()
	return x
}

// candidates are those that have turns left: connections by their numbers, then the clock.
func (k *keeper) candidates() []*comer {
	var list []*comer
	for _, x := range k.conns {
		if x.left > 0 {
			list = append(list, x)
		}
	}
	if k.clock.left > 0 {
		list = append(list, k.clock)
	}
	return list
}

// pick is the next pick: each turn takes one.
func (k *keeper) pick() int {
	if len(k.picks) == 0 {
		return 0
	}
	x := k.picks[len(k.turns)%len(k.picks)]
	if x < 0 {
		return -(x + 1)
	}
	return x
}

// share hands what the house answered to those that it is for.
func (k *keeper) share(outs []api.Out) {
	for _, x := range outs {
		switch x.Kind {
		case api.OutSay:
			k.conns[x.Conn].said <- x.Data
		case api.OutHang:
			k.conns[x.Conn].hangUp()
		}
	}
}

// hush: nobody is told anything any more.
func (k *keeper) hush() {
	for _, x := range k.conns {
		close(x.said)
	}
}
