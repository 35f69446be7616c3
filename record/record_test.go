package record

import (
	"bytes"
	"encoding/binary"
	"fmt"
	"math"
	"math/big"
	"math/rand"
	"reflect"
	"regexp"
	"slices"
	"strings"
	"sync"
	"testing"
	"time"
	"unsafe"

	"stint/api"
	"stint/frame"
)

// field is a number of a record as the tests see it: its name, where it stands, and what it may be at least and at most.
type field struct {
	name        string
	at          func(r *api.Record) *int
	least, most int
}

// The fields' rows; a Due and an Order hang on the state too: see rightState.
var (
	fFile     = field{"File", func(r *api.Record) *int { return &r.File }, 1, 1 << 40}
	fNext     = field{"Next", func(r *api.Record) *int { return &r.Next }, 1, 1<<40 + 1}
	fGone     = field{"Id", func(r *api.Record) *int { return &r.Id }, 1, 1 << 40}
	fId       = field{"Job.Id", func(r *api.Record) *int { return &r.Job.Id }, 1, 1 << 40}
	fPri      = field{"Pri", func(r *api.Record) *int { return &r.Job.Pri }, 0, 4294967295}
	fDelay    = field{"Delay", func(r *api.Record) *int { return &r.Job.Delay }, 0, 4294967295}
	fTTR      = field{"TTR", func(r *api.Record) *int { return &r.Job.TTR }, 1, 4294967295}
	fBorn     = field{"Born", func(r *api.Record) *int { return &r.Job.Born }, 0, 1 << 40}
	fState    = field{"State", func(r *api.Record) *int { return &r.Job.State }, 1, 4}
	fDue      = field{"Due", func(r *api.Record) *int { return &r.Job.Due }, 0, 1<<40 + 4294967295}
	fOrder    = field{"Order", func(r *api.Record) *int { return &r.Job.Order }, 0, 4611686018427387903}
	fReserves = field{"Reserves", func(r *api.Record) *int { return &r.Job.Counts.Reserves }, 0, 4611686018427387903}
	fTimeouts = field{"Timeouts", func(r *api.Record) *int { return &r.Job.Counts.Timeouts }, 0, 4611686018427387903}
	fReleases = field{"Releases", func(r *api.Record) *int { return &r.Job.Counts.Releases }, 0, 4611686018427387903}
	fBuries   = field{"Buries", func(r *api.Record) *int { return &r.Job.Counts.Buries }, 0, 4611686018427387903}
	fKicks    = field{"Kicks", func(r *api.Record) *int { return &r.Job.Counts.Kicks }, 0, 4611686018427387903}
)

var allFields = []field{
	fFile, fNext, fGone, fId, fPri, fDelay, fTTR, fBorn, fState, fDue, fOrder, fReserves, fTimeouts, fReleases, fBuries, fKicks,
}

// kindFields: the numbers of each kind, in the order of P10.3.
var kindFields = map[int][]field{
	1: {fFile, fNext},
	2: {fId, fPri, fDelay, fTTR, fBorn, fState, fDue, fOrder, fReserves, fTimeouts, fReleases, fBuries, fKicks},
	3: {fId, fPri, fDelay, fState, fDue, fOrder, fReserves, fTimeouts, fReleases, fBuries, fKicks},
	4: {fGone},
}

var wrongKinds = []int{0, 5, 6, -1, -4, 255, 256, 257, 258, 260, math.MaxInt, math.MinInt, 1 << 32, 1<<32 + 1}

var tubeForm = regexp.MustCompile(`\A[-+/;.$_()A-Za-z0-9]{1,200}\z`)

var wrongTubes = []string{
	"", "-", "-a", " ", "a b", "a ", " a", "\n", "a\r\n", "\x00", "a\x00", "é", "aé", "\xff", "a,b", "a:b", "a*", "[a]", "{", "~", "\x7f",
	strings.Repeat("a", 201), strings.Repeat("a", 255), strings.Repeat("a", 256), strings.Repeat("a", 257), strings.Repeat("a", 456), strings.Repeat("é", 100), "-" + strings.Repeat("a", 199),
}

var rightTubes = []string{
	"a", "Z", "0", "+", "/", ";", ".", "$", "_", "(", ")", "a-", "default", "a-b+c/d;e.f$g_h(i)", strings.Repeat("a", 199), strings.Repeat("a", 200), "a" + strings.Repeat("-", 199),
}

// short cuts what is long, so that a failure can be read.
func short(x any) string {
	text := fmt.Sprintf("%+v", x)
	if b, ok := x.([]byte); ok {
		text = fmt.Sprintf("%x", b)
	}
	if len(text) > 300 {
		text = fmt.Sprintf("%s .. (%d bytes)", text[:300], len(text))
	}
	return text
}

// exampleJob is the chapter's job.
func exampleJob() api.Stored {
	return api.Stored{Id: 1, Pri: 5, TTR: 60, Born: 10, State: api.Ready, Tube: "a", Body: []byte("xy")}
}

func whole(j api.Stored) api.Record { return api.Record{Kind: api.RecWhole, Job: j} }
func gone(id int) api.Record        { return api.Record{Kind: api.RecGone, Id: id} }
func head(file, next int) api.Record {
	return api.Record{Kind: api.RecHead, File: file, Next: next}
}

// shortOf is a short record of a job, which loses what such a record hasn't.
func shortOf(j api.Stored) api.Record {
	j.TTR, j.Born, j.Tube, j.Body = 0, 0, "", nil
	return api.Record{Kind: api.RecShort, Job: j}
}

// samples are right records of all kinds and states.
func samples() []api.Record {
	counts := api.Counts{Reserves: 1, Timeouts: 2, Releases: 3, Buries: 4, Kicks: 5}
	ready := exampleJob()
	delayed := api.Stored{Id: 1 << 40, Pri: 7, Delay: 8, TTR: 9, Born: 11, State: api.Delayed, Due: 19, Counts: counts, Tube: "mail", Body: []byte("body\r\n\x00\xff")}
	buried := api.Stored{Id: 70000, Pri: 4294967295, Delay: 1, TTR: 4294967295, Born: 1 << 40, State: api.Buried, Order: 300, Counts: counts, Tube: strings.Repeat("t", 200)}
	return []api.Record{
		head(1, 1), head(1<<40, 1<<40+1), head(3, 258),
		whole(ready), whole(delayed), whole(buried),
		shortOf(ready), shortOf(delayed), shortOf(buried),
		gone(1), gone(258), gone(1 << 40),
	}
}

// copyOf is a record with a body of its own.
func copyOf(r api.Record) api.Record {
	r.Job.Body = slices.Clone(r.Job.Body)
	return r
}

// same tells whether two records are, nil bodies and empty ones being one.
func same(a, b api.Record) bool {
	if !bytes.Equal(a.Job.Body, b.Job.Body) {
		return false
	}
	a.Job.Body, b.Job.Body = nil, nil
	return reflect.DeepEqual(a, b)
}

// rightState is what P10.2 says of State, Due and Order together.
func rightState(j api.Stored) bool {
	switch j.State {
	case api.Ready:
		return j.Due == 0 && j.Order == 0
	case api.Delayed:
		return j.Due > 0 && j.Order == 0
	case api.Buried:
		return j.Due == 0 && j.Order > 0
	}
	return false
}

// modelCheck is P10.2 by other means: the fields of the kind are looked at and blotted out, and what is left is held against a zero record.
func modelCheck(r api.Record) api.Errno {
	fields, ok := kindFields[r.Kind]
	if !ok {
		return api.ErrRecordKind
	}
	left := copyOf(r)
	right := true
	for _, f := range fields {
		n := f.at(&left)
		right = right && *n >= f.least && *n <= f.most
		*n = 0
	}
	if r.Kind == api.RecWhole || r.Kind == api.RecShort {
		right = right && rightState(r.Job)
	}
	if r.Kind == api.RecWhole {
		right = right && tubeForm.MatchString(r.Job.Tube) && !strings.HasPrefix(r.Job.Tube, "-") && len(r.Job.Body) <= 65535
		left.Job.Tube, left.Job.Body = "", nil
	}
	if !right || !same(left, api.Record{Kind: r.Kind}) {
		return api.ErrRecordField
	}
	return api.OK
}

// modelPut is the payload of a right record by the library's means.
func modelPut(r api.Record) []byte {
	b := []byte{byte(r.Kind)}
	for _, f := range kindFields[r.Kind] {
		b = binary.LittleEndian.AppendUint64(b, uint64(*f.at(&r)))
	}
	if r.Kind == api.RecWhole {
		b = slices.Concat(b, []byte{byte(len(r.Job.Tube))}, []byte(r.Job.Tube), r.Job.Body)
	}
	return b
}

// modelGet reads a payload without looking at what is in it, and holds the record against modelCheck.
func modelGet(b []byte) (api.Record, bool) {
	if len(b) == 0 {
		return api.Record{}, false
	}
	r := api.Record{Kind: int(b[0])}
	fields := kindFields[r.Kind]
	if len(b) < 1+8*len(fields) {
		return api.Record{}, false
	}
	for i, f := range fields {
		n := binary.LittleEndian.Uint64(b[1+8*i:])
		if n > math.MaxInt64 {
			return api.Record{}, false
		}
		*f.at(&r) = int(n)
	}
	rest := string(b[1+8*len(fields):])
	if r.Kind == api.RecWhole {
		if rest == "" || len(rest)-1 < int(rest[0]) {
			return api.Record{}, false
		}
		size := int(rest[0])
		r.Job.Tube, r.Job.Body = rest[1:1+size], []byte(rest[1+size:])
		rest = ""
	}
	if rest != "" || modelCheck(r) != api.OK {
		return api.Record{}, false
	}
	return r, true
}

func wantCheck(t *testing.T, r api.Record, want api.Errno) {
	t.Helper()
	if err := Check(r); err != want {
		t.Errorf("Check(%s) = %d; want %d", short(r), err, want)
	}
}

// wantRefused holds all calls that take a record against one that may not be.
func wantRefused(t *testing.T, r api.Record, want api.Errno) {
	t.Helper()
	wantCheck(t, r, want)
	if b, err := Put(r); len(b) != 0 || err != want {
		t.Errorf("Put(%s) = %s, %d; want none, %d", short(r), short(b), err, want)
	}
	if size := Size(r); size != 0 {
		t.Errorf("Size(%s) = %d; want 0", short(r), size)
	}
}

// wantRight holds all calls against a record that may be, and its payload.
func wantRight(t *testing.T, r api.Record, payload []byte) {
	t.Helper()
	wantCheck(t, r, api.OK)
	if b, err := Put(r); !bytes.Equal(b, payload) || err != api.OK {
		t.Errorf("Put(%s) = %s, %d; want %s", short(r), short(b), err, short(payload))
	}
	if size := Size(r); size != len(payload)+8 {
		t.Errorf("Size(%s) = %d; want %d", short(r), size, len(payload)+8)
	}
	if back, err := Get(payload); !same(back, r) || err != api.OK {
		t.Errorf("Get(%s) = %s, %d; want %s", short(payload), short(back), err, short(r))
	}
}

// wantOne holds all calls against a record of which nothing is known, with the models.
func wantOne(t *testing.T, r api.Record) {
	t.Helper()
	if err := modelCheck(r); err != api.OK {
		wantRefused(t, r, err)
	} else {
		wantRight(t, r, modelPut(r))
	}
}

func wantUnread(t *testing.T, b []byte) {
	t.Helper()
	if r, err := Get(b); !same(r, api.Record{}) || err != api.ErrRecordForm {
		t.Errorf("Get(%s) = %s, %d; want none, ErrRecordForm", short(b), short(r), err)
	}
}

// wantGet holds Get against the model.
func wantGet(t *testing.T, b []byte) bool {
	t.Helper()
	want, ok := modelGet(b)
	if !ok {
		wantUnread(t, b)
		return false
	}
	if r, err := Get(b); !same(r, want) || err != api.OK {
		t.Errorf("Get(%s) = %s, %d; want %s", short(b), short(r), err, short(want))
	}
	return true
}

func wantConfig(t *testing.T, jobMax, segment, quota int, want api.Errno) {
	t.Helper()
	if err := CheckConfig(api.Config{JobMax: jobMax, Segment: segment, Quota: quota}); err != want {
		t.Errorf("CheckConfig(%d, %d, %d) = %d; want %d", jobMax, segment, quota, err, want)
	}
}

// The chapter's examples, line by line.
func TestExamples(t *testing.T) {
	wantRight(t, gone(258), []byte{4, 2, 1, 0, 0, 0, 0, 0, 0})

	wantRight(t, head(1, 1), []byte{1, 1, 0, 0, 0, 0, 0, 0, 0, 1, 0, 0, 0, 0, 0, 0, 0})

	payload := []byte{2}
	for _, n := range []byte{1, 5, 0, 60, 10, 1, 0, 0, 0, 0, 0, 0, 0} {
		payload = append(payload, n, 0, 0, 0, 0, 0, 0, 0)
	}
	wantRight(t, whole(exampleJob()), append(payload, 1, 'a', 'x', 'y'))

	wantCheck(t, gone(0), api.ErrRecordField)
	wantCheck(t, api.Record{Kind: api.RecGone, Id: 1, File: 1}, api.ErrRecordField)
	wantCheck(t, api.Record{Kind: 5, Id: 0}, api.ErrRecordKind)

	for _, change := range []func(j *api.Stored){
		func(j *api.Stored) { j.State = api.Reserved },
		func(j *api.Stored) { j.State, j.Due = api.Delayed, 0 },
		func(j *api.Stored) { j.State, j.Due = api.Ready, 5 },
		func(j *api.Stored) { j.State, j.Order = api.Buried, 0 },
		func(j *api.Stored) { j.TTR = 0 },
		func(j *api.Stored) { j.Tube = "" },
	} {
		j := exampleJob()
		change(&j)
		wantCheck(t, whole(j), api.ErrRecordField)
	}

	wantUnread(t, nil)
	wantUnread(t, []byte{4, 0, 0, 0, 0, 0, 0, 0, 0})
	wantUnread(t, []byte{4, 1, 0, 0, 0, 0, 0, 0})
	wantUnread(t, []byte{4, 1, 0, 0, 0, 0, 0, 0, 0, 0})

	if a, b := Size(gone(1)), Size(api.Record{Kind: api.RecGone}); a != 17 || b != 0 {
		t.Errorf("Size = %d, %d; want 17, 0", a, b)
	}

	wantConfig(t, 65535, 4096, 65536, api.OK)
	wantConfig(t, 1, 256, 1024, api.OK)
	wantConfig(t, 1, 257, 1024, api.ErrConfig)
	wantConfig(t, 0, 256, 1024, api.ErrConfig)
}

// The chapter's errors, kinds and limits have the document's numbers.
func TestNumbers(t *testing.T) {
	for _, k := range []struct {
		name string
		got  int
		want int
	}{
		{"OK", int(api.OK), 0},
		{"ErrRecordKind", int(api.ErrRecordKind), 100},
		{"ErrRecordField", int(api.ErrRecordField), 101},
		{"ErrRecordForm", int(api.ErrRecordForm), 102},
		{"ErrConfig", int(api.ErrConfig), 103},
		{"RecHead", api.RecHead, 1},
		{"RecWhole", api.RecWhole, 2},
		{"RecShort", api.RecShort, 3},
		{"RecGone", api.RecGone, 4},
		{"Ready", api.Ready, 1},
		{"Delayed", api.Delayed, 2},
		{"Reserved", api.Reserved, 3},
		{"Buried", api.Buried, 4},
		{"MaxBody", api.MaxBody, 65535},
		{"MaxName", api.MaxName, 200},
		{"MaxNumber", api.MaxNumber, 4294967295},
		{"MaxId", api.MaxId, 1099511627776},
		{"MaxNow", api.MaxNow, 1099511627776},
		{"MaxFile", api.MaxFile, 1099511627776},
		{"MaxWord", api.MaxWord, 4611686018427387903},
		{"MaxFrame", api.MaxFrame, 66000},
		{"MinSegment", api.MinSegment, 128},
		{"MaxSegment", api.MaxSegment, 1048576},
		{"MinQuota", api.MinQuota, 1024},
		{"MaxQuota", api.MaxQuota, 67108864},
	} {
		if k.got != k.want {
			t.Errorf("%s = %d; want %d", k.name, k.got, k.want)
		}
	}
}

// P10.1: the edges of each field, and of four segments.
func TestConfigEdges(t *testing.T) {
	for _, k := range []struct {
		jobMax, segment, quota int
		want                   api.Errno
	}{
		{1, 128, 1024, api.OK}, {65535, 128, 1024, api.OK}, {100, 128, 1024, api.OK},
		{0, 128, 1024, api.ErrConfig}, {-1, 128, 1024, api.ErrConfig}, {65536, 128, 1024, api.ErrConfig},
		{1, 127, 1024, api.ErrConfig}, {1, 0, 1024, api.ErrConfig}, {1, -128, 1024, api.ErrConfig},
		{1, 128, 1023, api.ErrConfig}, {1, 128, 512, api.ErrConfig}, {1, 128, 0, api.ErrConfig}, {1, 128, -1024, api.ErrConfig},
		{1, 1048576, 67108864, api.OK}, {1, 1048576, 4194304, api.OK}, {1, 1048576, 4194303, api.ErrConfig}, {1, 1048577, 67108864, api.ErrConfig},
		{1, 128, 67108864, api.OK}, {1, 128, 67108865, api.ErrConfig},
		{1, 256, 1024, api.OK}, {1, 257, 1028, api.OK}, {1, 257, 1027, api.ErrConfig}, {1, 255, 1024, api.OK}, {1, 256, 1023, api.ErrConfig},
		{0, 0, 0, api.ErrConfig},
		// Four of such segments wrap round to few bytes, or to none.
		{1, 1 << 62, 1024, api.ErrConfig}, {1, 1<<62 + 128, 1024, api.ErrConfig}, {1, math.MinInt, 1024, api.ErrConfig}, {1, math.MaxInt, 67108864, api.ErrConfig},
		{1, 128, math.MaxInt, api.ErrConfig}, {1, 128, math.MinInt, api.ErrConfig}, {math.MaxInt, 128, 1024, api.ErrConfig}, {math.MinInt, 128, 1024, api.ErrConfig},
	} {
		wantConfig(t, k.jobMax, k.segment, k.quota, k.want)
	}
}

// P10.1: all configs of numbers about the edges, against numbers without an end.
func TestConfigsAgainstModel(t *testing.T) {
	var list []int
	for _, n := range []int{0, 1, 128, 256, 512, 1024, 4096, 65535, 1 << 18, 1 << 20, 1 << 22, 1 << 24, 1 << 26, 1 << 60, 1 << 61, 1 << 62, math.MinInt, -1 << 62, -1024} {
		list = append(list, n-1, n, n+1)
	}
	for _, jobMax := range list {
		for _, segment := range list {
			for _, quota := range list {
				four := new(big.Int).Mul(big.NewInt(4), big.NewInt(int64(segment)))
				right := jobMax > 0 && jobMax < 65536 && segment > 127 && segment < 1048577 && quota > 1023 && quota < 67108865
				want := api.ErrConfig
				if right && four.Cmp(big.NewInt(int64(quota))) <= 0 {
					want = api.OK
				}
				wantConfig(t, jobMax, segment, quota, want)
			}
		}
	}
}

// P10.2: a kind that is not 1 to 4 is told ahead of any field.
func TestKinds(t *testing.T) {
	for _, r := range samples() {
		wantCheck(t, r, api.OK)
		for _, kind := range wrongKinds {
			wrong := r
			wrong.Kind = kind
			wantRefused(t, wrong, api.ErrRecordKind)
			wrong.File, wrong.Job.State, wrong.Job.Tube, wrong.Job.Body = -1, 9, "-", make([]byte, 70000)
			wantRefused(t, wrong, api.ErrRecordKind)
			wantRefused(t, api.Record{Kind: kind}, api.ErrRecordKind)
		}
		for kind := 1; kind <= 4; kind++ {
			other := r
			other.Kind = kind
			if kind != r.Kind {
				wantRefused(t, other, api.ErrRecordField)
			}
			wantRefused(t, api.Record{Kind: kind}, api.ErrRecordField)
		}
	}
}

// aboutEdges are numbers at and beside a field's edges, and far from them.
func aboutEdges(f field) []int {
	return []int{
		f.least, f.least + 1, f.least - 1, f.most, f.most - 1, f.most + 1, 0, 1, -1, 2, 3, 4, 5,
		math.MaxInt, math.MaxInt - 1, math.MinInt, math.MinInt + 1, -f.most, 1 << 32, 1 << 40, 1<<40 + 1, 1<<40 + 2, 1 << 62, 1<<62 - 1,
		-1 << 63, 1<<40 + 1<<32 - 1, 1<<40 + 1<<32, 1<<56 + 1, 1<<32 + 1,
	}
}

// P10.2: the edges of each number that a kind has.
func TestFieldEdges(t *testing.T) {
	for _, r := range samples() {
		for _, f := range kindFields[r.Kind] {
			for _, n := range aboutEdges(f) {
				changed := r
				*f.at(&changed) = n
				wantOne(t, changed)
				if n < f.least || n > f.most {
					wantRefused(t, changed, api.ErrRecordField)
				}
			}
			if f.name == "State" || f.name == "Due" || f.name == "Order" {
				continue // they hang on each other: TestStates
			}
			for _, n := range []int{f.least, f.least + 1, f.most - 1, f.most, f.most / 2} {
				changed := r
				*f.at(&changed) = n
				wantRight(t, changed, modelPut(changed))
			}
		}
	}
}

// P10.2: each field that a kind hasn't is zero, texts and lists empty.
func TestOtherFields(t *testing.T) {
	for _, r := range samples() {
		for _, f := range allFields {
			has := slices.ContainsFunc(kindFields[r.Kind], func(g field) bool { return g.name == f.name })
			for _, n := range []int{1, 2, -1, 1 << 32, 1 << 62, math.MaxInt, math.MinInt} {
				changed := r
				*f.at(&changed) = n
				if !has {
					wantRefused(t, changed, api.ErrRecordField)
				}
			}
		}
		if r.Kind == api.RecWhole {
			continue
		}
		for _, tube := range []string{"a", "-", "\x00", " ", strings.Repeat("a", 201)} {
			changed := r
			changed.Job.Tube = tube
			wantRefused(t, changed, api.ErrRecordField)
		}
		for _, size := range []int{1, 2, 65535, 65536} {
			changed := r
			changed.Job.Body = make([]byte, size)
			wantRefused(t, changed, api.ErrRecordField)
		}
	}
}

// P10.2: a number that a kind hasn't does not make up for another one.
func TestOtherFieldsTogether(t *testing.T) {
	for _, r := range []api.Record{
		{Kind: api.RecHead, File: 1, Next: 1, Id: 1},
		{Kind: api.RecHead, File: 1, Next: 1, Id: 1, Job: api.Stored{Id: -1}},
		{Kind: api.RecHead, File: 1, Next: 1, Job: exampleJob()},
		{Kind: api.RecHead, File: 1, Next: 1, Job: api.Stored{TTR: math.MinInt, Born: math.MinInt}},
		{Kind: api.RecGone, Id: 1, Next: 5},
		{Kind: api.RecGone, Id: 1, File: 1, Next: -1},
		{Kind: api.RecGone, Id: 1, Job: api.Stored{Id: 1}},
		{Kind: api.RecGone, Job: api.Stored{Id: 1}},
		{Kind: api.RecGone, Id: 1, Job: api.Stored{Counts: api.Counts{Kicks: 1}}},
		{Kind: api.RecShort, Job: exampleJob()},
		{Kind: api.RecShort, Id: 1, Job: api.Stored{State: api.Ready}},
		{Kind: api.RecWhole, Id: 1, Job: exampleJob()},
		{Kind: api.RecWhole, File: 1, Next: 2, Job: exampleJob()},
	} {
		wantRefused(t, r, api.ErrRecordField)
	}
}

// P10.2: State, Due and Order together, of a whole record and of a short one.
func TestStates(t *testing.T) {
	mostDue, mostOrder := 1<<40+4294967295, 1<<62-1
	rights := 0
	for state := -1; state <= 6; state++ {
		for _, due := range []int{0, 1, 5, -1, mostDue - 1, mostDue, mostDue + 1, math.MaxInt, math.MinInt} {
			for _, order := range []int{0, 1, 5, -1, mostOrder - 1, mostOrder, mostOrder + 1, math.MaxInt, math.MinInt} {
				j := exampleJob()
				j.State, j.Due, j.Order = state, due, order
				right := state == 1 && due == 0 && order == 0 ||
					state == 2 && due >= 1 && due <= mostDue && order == 0 ||
					state == 4 && due == 0 && order >= 1 && order <= mostOrder
				for _, r := range []api.Record{whole(j), shortOf(j)} {
					if right {
						rights++
						wantRight(t, r, modelPut(r))
					} else {
						wantRefused(t, r, api.ErrRecordField)
					}
				}
			}
		}
	}
	if rights != 18 {
		t.Errorf("%d of the records are right; want 18", rights)
	}
	for _, state := range []int{math.MaxInt, math.MinInt, 1 << 32, 1<<32 + 1, 256, 257} {
		j := exampleJob()
		j.State = state
		wantRefused(t, whole(j), api.ErrRecordField)
	}
}

// P10.2, P10.3, P10.4: tubes that are names and tubes that are none, each byte among them.
func TestTubes(t *testing.T) {
	for _, tube := range rightTubes {
		j := exampleJob()
		j.Tube = tube
		wantRight(t, whole(j), modelPut(whole(j)))
	}
	for _, tube := range wrongTubes {
		j := exampleJob()
		j.Tube = tube
		wantRefused(t, whole(j), api.ErrRecordField)
		if len(tube) < 256 {
			wantUnread(t, modelPut(whole(j)))
		}
	}
	for c := range 256 {
		for _, tube := range []string{string([]byte{byte(c)}), string([]byte{'a', byte(c)}), string([]byte{byte(c), 'a'})} {
			j := exampleJob()
			j.Tube = tube
			wantOne(t, whole(j))
			wantGet(t, modelPut(whole(j)))
		}
	}
}

// P10.2, P10.3, P10.4: bodies of all sorts of sizes, with any bytes.
func TestBodies(t *testing.T) {
	for _, size := range []int{0, 1, 2, 255, 256, 257, 4096, 65534, 65535} {
		j := exampleJob()
		j.Body = bytes.Repeat([]byte{0xfe}, size)
		wantRight(t, whole(j), modelPut(whole(j)))
	}
	for _, size := range []int{65536, 65537, 70000, 131071, 1 << 20} {
		j := exampleJob()
		j.Body = make([]byte, size)
		wantRefused(t, whole(j), api.ErrRecordField)
		wantUnread(t, modelPut(whole(j)))
	}
	for c := range 256 {
		j := exampleJob()
		j.Body = []byte{byte(c), 'a', byte(c)}
		wantRight(t, whole(j), modelPut(whole(j)))
	}
}

// P10.3: each field stands at its own place, the lowest byte first.
func TestPlaces(t *testing.T) {
	j := api.Stored{
		Id: 0x0102030405, Pri: 0x11121314, Delay: 0x21222324, TTR: 0x31323334, Born: 0x51525354, State: api.Delayed, Due: 0x0161626364,
		Counts: api.Counts{Reserves: 0x0172737475767778, Timeouts: 0x0182838485868788, Releases: 0x0192939495969798, Buries: 0x01a2a3a4a5a6a7a8, Kicks: 0x01b2b3b4b5b6b7b8},
		Tube:   "tube", Body: []byte("body"),
	}
	counts := "\x78\x77\x76\x75\x74\x73\x72\x01" + "\x88\x87\x86\x85\x84\x83\x82\x01" + "\x98\x97\x96\x95\x94\x93\x92\x01" + "\xa8\xa7\xa6\xa5\xa4\xa3\xa2\x01" + "\xb8\xb7\xb6\xb5\xb4\xb3\xb2\x01"
	first := "\x05\x04\x03\x02\x01\x00\x00\x00" + "\x14\x13\x12\x11\x00\x00\x00\x00" + "\x24\x23\x22\x21\x00\x00\x00\x00"
	times := "\x34\x33\x32\x31\x00\x00\x00\x00" + "\x54\x53\x52\x51\x00\x00\x00\x00"
	delayed := "\x02\x00\x00\x00\x00\x00\x00\x00" + "\x64\x63\x62\x61\x01\x00\x00\x00" + "\x00\x00\x00\x00\x00\x00\x00\x00"
	buried := "\x04\x00\x00\x00\x00\x00\x00\x00" + "\x00\x00\x00\x00\x00\x00\x00\x00" + "\xc8\xc7\xc6\xc5\xc4\xc3\xc2\x01"

	wantRight(t, whole(j), []byte("\x02"+first+times+delayed+counts+"\x04tubebody"))
	wantRight(t, shortOf(j), []byte("\x03"+first+delayed+counts))
	j.State, j.Due, j.Order = api.Buried, 0, 0x01c2c3c4c5c6c7c8
	wantRight(t, whole(j), []byte("\x02"+first+times+buried+counts+"\x04tubebody"))
	wantRight(t, shortOf(j), []byte("\x03"+first+buried+counts))

	wantRight(t, head(0x0102030405, 0xa1a2a3a4), []byte("\x01\x05\x04\x03\x02\x01\x00\x00\x00\xa4\xa3\xa2\xa1\x00\x00\x00\x00"))
	wantRight(t, gone(0xf1f2f3f4f5), []byte("\x04\xf5\xf4\xf3\xf2\xf1\x00\x00\x00"))
}

// P10.4: a payload that is cut, or has more behind it, is that of none; but a whole one's body takes up what is behind.
func TestCuts(t *testing.T) {
	for _, r := range samples() {
		b, _ := Put(r)
		for size := range b {
			right := wantGet(t, b[:size])
			if want := r.Kind == api.RecWhole && size >= len(b)-len(r.Job.Body); right != want {
				t.Errorf("a %d, cut to %d of %d bytes, is read: %t", r.Kind, size, len(b), right)
			}
		}
		for _, more := range []string{"\x00", "\x01", "a", strings.Repeat("\x00", 8), strings.Repeat("\x00", 16), string(b)} {
			right := wantGet(t, []byte(string(b)+more))
			if want := r.Kind == api.RecWhole; right != want {
				t.Errorf("a %d with %q behind it is read: %t", r.Kind, more, right)
			}
		}
	}
}

// P10.4: each byte of a payload is spoilt in each way.
func TestSpoiltBytes(t *testing.T) {
	for _, r := range samples() {
		b, _ := Put(r)
		for i := range b {
			spoilt := bytes.Clone(b)
			for c := range 256 {
				spoilt[i] = byte(c)
				wantGet(t, spoilt)
			}
		}
	}
}

// P10.4: numbers of 64 bits, the highest one set too, are those of no record.
func TestHighBits(t *testing.T) {
	for _, r := range samples() {
		b, _ := Put(r)
		for i := range kindFields[r.Kind] {
			for bit := range 64 {
				spoilt := bytes.Clone(b)
				spoilt[1+8*i+bit/8] ^= 1 << (bit % 8)
				wantGet(t, spoilt)
				if bit >= 62 {
					wantUnread(t, spoilt)
				}
			}
			spoilt := bytes.Clone(b)
			copy(spoilt[1+8*i:], "\xff\xff\xff\xff\xff\xff\xff\xff")
			wantUnread(t, spoilt)
		}
	}
}

// P10.4: of one byte, and of two, none is a payload; nor is one of zeros, whatever its size.
func TestNoPayloads(t *testing.T) {
	for c := range 256 {
		wantUnread(t, []byte{byte(c)})
		for d := range 256 {
			wantUnread(t, []byte{byte(c), byte(d)})
		}
		for size := range 130 {
			b := make([]byte, size+1)
			b[0] = byte(c)
			wantUnread(t, b)
			for i := range b {
				b[i] = byte(c)
			}
			wantGet(t, b)
		}
	}
	for c := 5; c < 256; c++ {
		for _, r := range samples() {
			b, _ := Put(r)
			b[0] = byte(c)
			wantUnread(t, b)
		}
	}
}

// P10.5, P10.7: the sizes, and that a frame of that size can be made.
func TestSizes(t *testing.T) {
	j := exampleJob()
	j.Tube, j.Body = strings.Repeat("t", 200), make([]byte, 65535)
	records := append(samples(), whole(j))
	for _, r := range records {
		want := map[int]int{1: 25, 2: 114 + len(r.Job.Tube) + len(r.Job.Body), 3: 97, 4: 17}[r.Kind]
		if size := Size(r); size != want {
			t.Errorf("Size(%s) = %d; want %d", short(r), size, want)
		}
		payload, _ := Put(r)
		f, err := frame.Make(1, 0, payload)
		if len(f) != want || err != api.OK {
			t.Errorf("the frame of %s has %d bytes, %d; want %d", short(r), len(f), err, want)
		}
	}
	if b, err := Put(whole(j)); len(b) != 65841 || err != api.OK || len(b) > api.MaxFrame {
		t.Errorf("the greatest payload has %d bytes, %d; want 65841", len(b), err)
	}
}

// randomNumber is one of a field's edges, one within them, or any.
func randomNumber(rng *rand.Rand, f field) int {
	switch rng.Intn(6) {
	case 0:
		return f.least
	case 1:
		return f.most
	case 2:
		return f.least + int(rng.Uint64()>>1)%(f.most-f.least+1)
	case 3:
		return 0
	default:
		return f.least + rng.Intn(4)
	}
}

// randomRecord is a record that is right, or nearly so.
func randomRecord(rng *rand.Rand) api.Record {
	r := api.Record{Kind: 1 + rng.Intn(4)}
	for _, f := range kindFields[r.Kind] {
		*f.at(&r) = randomNumber(rng, f)
	}
	if r.Kind == api.RecWhole || r.Kind == api.RecShort {
		r.Job.State = []int{1, 1, 2, 2, 4, 4, 3}[rng.Intn(7)]
		r.Job.Due, r.Job.Order = 0, 0
		if r.Job.State == api.Delayed {
			r.Job.Due = randomNumber(rng, fDue)
		}
		if r.Job.State == api.Buried {
			r.Job.Order = randomNumber(rng, fOrder)
		}
	}
	if r.Kind == api.RecWhole {
		r.Job.Tube = rightTubes[rng.Intn(len(rightTubes))]
		r.Job.Body = make([]byte, rng.Intn(20))
		rng.Read(r.Job.Body)
	}
	if rng.Intn(5) == 0 {
		*allFields[rng.Intn(len(allFields))].at(&r) = []int{1, -1, 1 << 40, math.MaxInt, math.MinInt, 5}[rng.Intn(6)]
	}
	return r
}

// P10.2 to P10.6: records at random against the models.
func TestRandomRecords(t *testing.T) {
	rng := rand.New(rand.NewSource(1))
	rights := 0
	for range 60000 {
		r := randomRecord(rng)
		wantOne(t, r)
		if modelCheck(r) == api.OK {
			rights++
		}
		if t.Failed() {
			return
		}
	}
	if rights < 10000 || rights > 50000 {
		t.Errorf("%d of the records are right", rights)
	}
}

// P10.4, P10.6: bytes at random, made from payloads: what is read is put as the same bytes.
func TestRandomPayloads(t *testing.T) {
	rng := rand.New(rand.NewSource(2))
	list := samples()
	rights := 0
	for range 60000 {
		b, _ := Put(list[rng.Intn(len(list))])
		for range rng.Intn(4) {
			switch rng.Intn(4) {
			case 0:
				b = b[:rng.Intn(len(b)+1)]
			case 1:
				b = append(b, byte(rng.Intn(256)))
			case 2:
				other, _ := Put(list[rng.Intn(len(list))])
				b = append(b[:rng.Intn(len(b)+1)], other[rng.Intn(len(other)):]...)
			default:
				if len(b) > 0 {
					b[rng.Intn(len(b))] ^= 1 << rng.Intn(8)
				}
			}
		}
		if wantGet(t, b) {
			rights++
			r, _ := Get(b)
			if again, err := Put(r); !bytes.Equal(again, b) || err != api.OK {
				t.Errorf("Put of Get(%s) = %s, %d", short(b), short(again), err)
			}
		}
		if t.Failed() {
			return
		}
	}
	if rights < 10000 || rights > 50000 {
		t.Errorf("%d of the payloads are right", rights)
	}
}

// P10.6: no two records have one payload.
func TestPayloadsDiffer(t *testing.T) {
	list := samples()
	for _, tube := range []string{"a", "ab", "abc"} { // the tube's end and the body's beginning are told apart
		for _, body := range []string{"", "b", "bc", "c"} {
			j := exampleJob()
			j.Tube, j.Body = tube, []byte(body)
			list = append(list, whole(j))
		}
	}
	for _, r := range samples() {
		for _, f := range kindFields[r.Kind] {
			changed := r
			*f.at(&changed)++
			if Check(changed) == api.OK {
				list = append(list, changed)
			}
		}
	}
	for i, a := range list {
		for _, b := range list[:i] {
			one, _ := Put(a)
			other, _ := Put(b)
			if bytes.Equal(one, other) != same(a, b) {
				t.Errorf("%s and %s have the payloads %s and %s", short(a), short(b), short(one), short(other))
			}
		}
	}
}

// R3: a nil body and an empty one are the same.
func TestNilAndEmpty(t *testing.T) {
	for _, r := range samples() {
		r.Job.Body = nil
		empty := r
		empty.Job.Body = []byte{}
		spare := r
		spare.Job.Body = []byte("spare")[:0]
		want := modelPut(r)
		for _, x := range []api.Record{r, empty, spare} {
			wantRight(t, x, want)
		}
	}
	wantUnread(t, nil)
	wantUnread(t, []byte{})
	wantUnread(t, []byte("\x04\x01\x00\x00\x00\x00\x00\x00\x00")[:0])
}

// R4: neither a record's body nor a payload is changed, nor the spare room behind it.
func TestArgumentsStay(t *testing.T) {
	for _, r := range samples() {
		room := append(bytes.Clone(r.Job.Body), "spare room"...)
		before := bytes.Clone(room)
		r.Job.Body = room[:len(r.Job.Body)]
		Check(r)
		Size(r)
		payload, _ := Put(r)
		if !bytes.Equal(room, before) {
			t.Errorf("a body became %s; it was %s", short(room), short(before))
		}
		room = append(bytes.Clone(payload), "spare room"...)
		before = bytes.Clone(room)
		Get(room[:len(payload)])
		Get(room[:len(payload)-1])
		if !bytes.Equal(room, before) {
			t.Errorf("a payload became %s; it was %s", short(room), short(before))
		}
	}
}

// R4: what is answered shares nothing with what was handed in, nor with another answer.
func TestAnswersAreNew(t *testing.T) {
	for _, r := range samples() {
		want := copyOf(r)
		first, _ := Put(r)
		second, _ := Put(r)
		payload := bytes.Clone(first)
		scribble(first)
		scribble(r.Job.Body)
		if !bytes.Equal(second, payload) {
			t.Errorf("a payload became %s; it was %s", short(second), short(payload))
		}
		one, _ := Get(second)
		other, _ := Get(second)
		scribble(one.Job.Body)
		if !bytes.Equal(second, payload) || !same(other, want) {
			t.Errorf("a record's body wrote to %s and %s", short(second), short(other))
		}
		scribble(second)
		if !same(other, want) {
			t.Errorf("a record became %s; it was %s", short(other), short(want))
		}
	}
}

// scribble writes all over a list, its spare room too.
func scribble(b []byte) {
	b = b[:cap(b)]
	for i := range b {
		b[i] ^= 0xff
	}
}

// R4: a tube that is handed in is not kept: its bytes may become others.
func TestTubesAreNotKept(t *testing.T) {
	tube := []byte("mail")
	j := exampleJob()
	j.Tube = unsafe.String(&tube[0], len(tube))
	payload, _ := Put(whole(j))
	scribble(tube)
	if r, err := Get(payload); r.Job.Tube != "mail" || err != api.OK {
		t.Errorf("the tube became %q, %d", r.Job.Tube, err)
	}
}

// R2: beside an error there is no record, not even one of a kind, and no bytes.
func TestNothingBesideErrors(t *testing.T) {
	for _, r := range samples() {
		b, _ := Put(r)
		for _, wrong := range [][]byte{b[:len(b)-1-len(r.Job.Body)], append([]byte{9}, b[1:]...), append(bytes.Clone(b[:9]), make([]byte, len(b)-9)...)} {
			if got, err := Get(wrong); err != api.OK && !same(got, api.Record{}) {
				t.Errorf("Get(%s) = %s beside %d", short(wrong), short(got), err)
			}
		}
		r.Job.Order = -1
		if b, err := Put(r); b != nil && len(b) > 0 || err == api.OK {
			t.Errorf("Put(%s) = %s, %d", short(r), short(b), err)
		}
	}
}

// R5: calls know nothing of each other, side by side too.
func TestSideBySide(t *testing.T) {
	list := samples()
	var group sync.WaitGroup
	for i := range 8 {
		group.Go(func() {
			for k := range 300 {
				r := list[(i+k)%len(list)]
				want := modelPut(r)
				b, err := Put(r)
				back, problem := Get(want)
				if !bytes.Equal(b, want) || err != api.OK || !same(back, r) || problem != api.OK || Size(r) != len(want)+8 {
					t.Errorf("Put(%s) = %s, %d; Get = %s, %d", short(r), short(b), err, short(back), problem)
				}
				Get(want[:len(want)/2])
				Put(api.Record{Kind: k})
				CheckConfig(api.Config{JobMax: k})
			}
		})
	}
	group.Wait()
}

// R1: great bytes are refused soon, and the greatest records are put and read in no time.
func TestGreatSizes(t *testing.T) {
	start := time.Now()
	great := make([]byte, 1<<26)
	b, _ := Put(whole(exampleJob()))
	copy(great, b)
	for range 1000 {
		wantUnread(t, great)
	}
	j := exampleJob()
	j.Body = great
	for range 1000 {
		wantRefused(t, whole(j), api.ErrRecordField)
	}
	j.Tube, j.Body = strings.Repeat("t", 200), great[:65535]
	for range 1000 {
		b, _ = Put(whole(j))
		if r, err := Get(b); err != api.OK || len(r.Job.Body) != 65535 {
			t.Fatal(err)
		}
	}
	if d := time.Since(start); d > 20*time.Second {
		t.Errorf("it took %v", d)
	}
}
