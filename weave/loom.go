package weave

import (
	"maps"
	"slices"
	"sync"

	"stint/api"
)

// loom is what workers share who play orders.
type loom struct {
	config   api.Config
	pieces   [][][]byte
	lock     sync.Mutex
	outcomes map[outcome]struct{} // the unlike ones of the orders that were played
	once     sync.Once
	told     [][][]byte // what is made of the outcomes, when all are there
}

func newLoom(c api.Config, pieces [][][]byte) *loom {
	return &loom{config: c, pieces: pieces, outcomes: map[outcome]struct{}{}}
}

// run lets so many workers play all orders, and is what comes of it.
func (l *loom) run(workers int) [][][]byte {
	orders := make(chan []int)
	var played, ended sync.WaitGroup
	played.Add(workers)
	ended.Add(workers)
	for range workers {
		go func() {
			defer ended.Done()
			l.work(orders)
			played.Done()
			played.Wait() // others may bring outcomes still
			l.once.Do(l.tell)
		}()
	}
	l.send(orders)
	ended.Wait()
	return l.told
}

// send hands all orders out.
func (l *loom) send(orders chan<- []int) {
	defer close(orders)
	order := firstOrder(l.pieces)
	for more := true; more; more = advance(order) {
		orders <- slices.Clone(order)
	}
}

// work plays orders as long as there are any.
func (l *loom) work(orders <-chan []int) {
	for order := range orders {
		l.gather(play(l.config, l.pieces, order))
	}
}

func (l *loom) gather(x outcome) {
	l.lock.Lock()
	defer l.lock.Unlock()
	l.outcomes[x] = struct{}{}
}

// tell makes of all outcomes what is told.
func (l *loom) tell() {
	for _, x := range slices.SortedFunc(maps.Keys(l.outcomes), outcome.compare) {
		l.told = append(l.told, x.lists(len(l.pieces)))
	}
}
