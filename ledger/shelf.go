package ledger

import (
	"cmp"
	"slices"

	"stint/api"
	"stint/frame"
	"stint/record"
)

// file: its number, how many bytes it has, and whose whole records were written to it.
type file struct {
	num, size int
	ids       []int // rising; a job that is gone, or has a later whole record elsewhere, may still be among them
}

// note writes down that a job's whole record stands in the file.
func (f *file) note(id int) {
	place, _ := slices.BinarySearch(f.ids, id)
	f.ids = slices.Insert(f.ids, place, id)
}

// shelf has the files of the log, as far as a ledger has to know them, and collects what has to be done to them.
type shelf struct {
	files []file // by rising numbers
	used  int    // the bytes of all files, counted along
	acts  []api.Act
}

// shelve is a shelf with files; false: their numbers may not be.
func shelve(files []api.File) (shelf, bool) {
	s := shelf{files: make([]file, 0, len(files))}
	for _, f := range files {
		s.files = append(s.files, file{num: f.Num, size: len(f.Data)})
		s.used += len(f.Data)
	}
	slices.SortFunc(s.files, func(x, y file) int { return cmp.Compare(x.num, y.num) })
	last := 0
	for _, f := range s.files {
		if f.num <= last || f.num > api.MaxFile {
			return shelf{}, false
		}
		last = f.num
	}
	return s, true
}

func (s *shelf) oldest() *file { return &s.files[0] }

func (s *shelf) newest() *file { return &s.files[len(s.files)-1] }

// find is the file of a number that is there.
func (s *shelf) find(num int) *file {
	place, _ := slices.BinarySearchFunc(s.files, num, func(f file, num int) int { return cmp.Compare(f.num, num) })
	return &s.files[place]
}

// create lays a file behind all others.
func (s *shelf) create(num int) {
	s.files = append(s.files, file{num: num})
	s.do(api.Act{Kind: api.ActCreate, File: num})
}

// lay appends a right record to the newest file.
func (s *shelf) lay(r api.Record) {
	f := s.newest()
	data := framed(r, f.num, f.size)
	f.size += len(data)
	s.used += len(data)
	s.do(api.Act{Kind: api.ActAppend, File: f.num, Data: data})
}

// framed is the frame of a right record for a place of a file.
func framed(r api.Record, num, place int) []byte {
	payload, _ := record.Put(r)
	data, _ := frame.Make(num, place, payload)
	return data
}

func (s *shelf) sync() { s.do(api.Act{Kind: api.ActSync, File: s.newest().num}) }

// cut leaves the newest file its first bytes alone.
func (s *shelf) cut(size int) {
	f := s.newest()
	s.used -= f.size - size
	f.size = size
	s.do(api.Act{Kind: api.ActCut, File: f.num, Size: size})
}

// remove takes the oldest file away.
func (s *shelf) remove() {
	f := *s.oldest()
	s.used -= f.size
	*s.oldest() = file{} // its place in memory stays for a while, and would keep its list
	s.files = s.files[1:]
	s.do(api.Act{Kind: api.ActRemove, File: f.num})
}

func (s *shelf) do(a api.Act) { s.acts = append(s.acts, a) }

// done hands out the acts that were collected.
func (s *shelf) done() []api.Act {
	acts := s.acts
	s.acts = nil
	return acts
}

// clone is a shelf with lists of its own.
func (s *shelf) clone() shelf {
	c := shelf{files: slices.Clone(s.files), used: s.used}
	for i := range c.files {
		c.files[i].ids = slices.Clone(c.files[i].ids)
	}
	return c
}
