package record

import "stint/api"

// The places of a record's numbers.
const (
	file = iota
	next
	goneId
	jobId
	pri
	delay
	ttr
	born
	state
	due
	order
	reserves
	timeouts
	releases
	buries
	kicks
	places
)

// numbers are all numbers of a record but its kind, those that its kind hasn't too: as an array they are held against zero in one go.
type numbers [places]int

// fieldsOf tells which numbers a kind has, in the order in which they stand in a payload.
func fieldsOf(kind int) []int {
	switch kind {
	case api.RecHead:
		return []int{file, next}
	case api.RecWhole:
		return []int{jobId, pri, delay, ttr, born, state, due, order, reserves, timeouts, releases, buries, kicks}
	case api.RecShort:
		return []int{jobId, pri, delay, state, due, order, reserves, timeouts, releases, buries, kicks}
	case api.RecGone:
		return []int{goneId}
	}
	return nil
}

func numbersOf(r api.Record) numbers {
	j, c := r.Job, r.Job.Counts
	return numbers{
		file: r.File, next: r.Next, goneId: r.Id,
		jobId: j.Id, pri: j.Pri, delay: j.Delay, ttr: j.TTR, born: j.Born, state: j.State, due: j.Due, order: j.Order,
		reserves: c.Reserves, timeouts: c.Timeouts, releases: c.Releases, buries: c.Buries, kicks: c.Kicks,
	}
}

// record is the record that has these numbers, without a tube and a body.
func (n numbers) record(kind int) api.Record {
	return api.Record{Kind: kind, File: n[file], Next: n[next], Id: n[goneId], Job: api.Stored{
		Id: n[jobId], Pri: n[pri], Delay: n[delay], TTR: n[ttr], Born: n[born], State: n[state], Due: n[due], Order: n[order],
		Counts: api.Counts{Reserves: n[reserves], Timeouts: n[timeouts], Releases: n[releases], Buries: n[buries], Kicks: n[kicks]},
	}}
}

// hasOther tells whether a number that the kind hasn't is not zero.
func (n numbers) hasOther(kind int) bool {
	for _, field := range fieldsOf(kind) {
		n[field] = 0
	}
	return n != numbers{}
}

// mayBe tells whether the numbers that the kind has are within their bounds.
func (n numbers) mayBe(kind int) bool {
	for _, field := range fieldsOf(kind) {
		least, most := bounds(field, n[state])
		if !within(n[field], least, most) {
			return false
		}
	}
	return n[state] != api.Reserved // the log has no such jobs
}

// bounds tells what a number may be at least and at most, of a job in that state.
func bounds(field, inState int) (int, int) {
	switch field {
	case file:
		return 1, api.MaxFile
	case next:
		return 1, api.MaxId + 1
	case goneId, jobId:
		return 1, api.MaxId
	case pri, delay:
		return 0, api.MaxNumber
	case ttr:
		return 1, api.MaxNumber
	case born:
		return 0, api.MaxNow
	case state:
		return api.Ready, api.Buried
	case due:
		return onlyIf(inState == api.Delayed, api.MaxNow+api.MaxNumber)
	case order:
		return onlyIf(inState == api.Buried, api.MaxWord)
	}
	return 0, api.MaxWord
}

// onlyIf bounds a number that is 1 to most where it means something, and 0 elsewhere.
func onlyIf(meant bool, most int) (int, int) {
	if meant {
		return 1, most
	}
	return 0, 0
}

// addTo puts the numbers that the kind has behind b.
func (n numbers) addTo(b []byte, kind int) []byte {
	for _, field := range fieldsOf(kind) {
		for i := range numberSize {
			b = append(b, byte(n[field]>>(8*i)))
		}
	}
	return b
}

// takeNumbers takes the numbers that the kind has off the beginning of b, and tells what is behind them; false: they are not all there.
func takeNumbers(b []byte, kind int) (numbers, []byte, bool) {
	var n numbers
	for _, field := range fieldsOf(kind) {
		if len(b) < numberSize {
			return numbers{}, nil, false
		}
		for i, c := range b[:numberSize] {
			// A number whose highest bit is set turns out below zero, and Check refuses it.
			n[field] |= int(c) << (8 * i)
		}
		b = b[numberSize:]
	}
	return n, b, true
}
