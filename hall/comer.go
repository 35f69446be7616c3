package hall

// comer is one who may have turns: a connection, or the clock. How many it had and has left is the keeper's to know; it has a goroutine of its own, to which the channels go.
type comer struct {
	num        int // a connection's; that of the clock is below 0
	came, left int
	turn       chan struct{} // it has its turn; closed when it is hung up
	ticked     chan struct{} // of the clock: it does what it has to do in its turn
	pieces     chan []byte   // of a connection: the same
	said       chan []byte   // of a connection: what it is told
}

func newConn(num, left int) *comer {
	return &comer{num: num, left: left, turn: make(chan struct{}), pieces: make(chan []byte), said: make(chan []byte)}
}

func newClock(left int) *comer {
	return &comer{num: -1, left: left, turn: make(chan struct{}), ticked: make(chan struct{})}
}

// speak sends a connection's pieces, one whenever it is its turn, until it is hung up.
func (x *comer) speak(pieces [][]byte) {
	defer close(x.pieces)
	for _, piece := range pieces {
		if _, there := <-x.turn; !there {
			return
		}
		x.pieces <- piece
	}
}

// listen gathers what a connection is told.
func (x *comer) listen() []byte {
	var all []byte
	for data := range x.said {
		all = append(all, data...)
	}
	return all
}

// tick lets the clock tick so many times, once whenever it is its turn.
func (x *comer) tick(times int) {
	for range times {
		<-x.turn
		x.ticked <- struct{}{}
	}
}

// begin gives it its turn.
func (x *comer) begin() {
	x.came++
	x.left--
	x.turn <- struct{}{}
}

// hangUp takes from it all turns that it has left.
func (x *comer) hangUp() {
	x.left = 0
	close(x.turn)
}
