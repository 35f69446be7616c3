package disk

// file: its bytes, which are no one else's, and how many of them are safe.
type file struct {
	data []byte
	safe int
}

// first is a file with the first n bytes alone, all of them safe.
func (f file) first(n int) file {
	data := f.data
	if n < len(data) {
		data = copied(data[:n]) // a piece of the old memory would keep the bytes that are gone
	}
	return file{data: data, safe: n}
}

// kept tells how many of the bytes that are not safe a crash keeps, if chance says x.
func (f file) kept(x int) int {
	if x < 0 {
		x = -(x + 1) // which never overflows, as -x would at the least number
	}
	return x % (len(f.data) - f.safe + 1)
}

func copied(b []byte) []byte {
	c := make([]byte, len(b))
	copy(c, b)
	return c
}
