package ledger

import (
	"bytes"

	"stint/api"
	"stint/record"
)

// Bytes of the frames of records, and what is held free so that a job can go, and be buried: each may need a file begun.
const (
	headSize  = 25
	shortSize = 97
	goneSize  = 17
	toGo      = goneSize + headSize
	toBury    = shortSize + headSize
)

// job is a stored job, and the number of the file in which its last whole record stands.
type job struct {
	api.Stored
	file int
}

// mayBecome tells whether a job has what of j never changes.
func (old job) mayBecome(j api.Stored) bool {
	return old.TTR == j.TTR && old.Born == j.Born && old.Tube == j.Tube && bytes.Equal(old.Body, j.Body)
}

// told is the stored job with a body of its own, into which a caller may write.
func (old job) told() api.Stored {
	stored := old.Stored
	stored.Body = bytes.Clone(stored.Body)
	return stored
}

func wholeRecord(j api.Stored) api.Record { return api.Record{Kind: api.RecWhole, Job: j} }

func shortRecord(j api.Stored) api.Record {
	j.TTR, j.Born, j.Tube, j.Body = 0, 0, "", nil
	return api.Record{Kind: api.RecShort, Job: j}
}

// mayBe tells whether a job may be stored.
func mayBe(j api.Stored) bool { return record.Check(wholeRecord(j)) == api.OK }

func wholeSize(j api.Stored) int { return record.Size(wholeRecord(j)) }

// heldFor tells how many bytes are held free for a job.
func heldFor(j api.Stored) int {
	if j.State == api.Buried {
		return toGo
	}
	return toGo + toBury
}
