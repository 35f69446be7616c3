package weave

import "slices"

// firstOrder is the one in which no connection comes ahead of one with a smaller number.
func firstOrder(pieces [][][]byte) []int {
	var order []int
	for conn, list := range pieces {
		for range list {
			order = append(order, conn)
		}
	}
	return order
}

// advance makes of an order the next one, as lists of numbers rise; false, and the order is as it was: it is the last one.
func advance(order []int) bool {
	// What stands behind the place at falls, so no order of it is greater.
	at := len(order) - 2
	for at >= 0 && order[at] >= order[at+1] {
		at--
	}
	if at < 0 {
		return false
	}
	next := len(order) - 1
	for order[next] <= order[at] {
		next--
	}
	order[at], order[next] = order[next], order[at]
	slices.Reverse(order[at+1:])
	return true
}
