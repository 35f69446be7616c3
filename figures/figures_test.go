package figures

import (
	"bytes"
	"fmt"
	"math"
	"math/big"
	"math/rand"
	"slices"
	"strings"
	"sync"
	"testing"
	"time"

	"stint/api"
	"stint/digits"
	"stint/yaml"
)

// The keys as the chapter's tables have them.
const (
	jobKeys  = "id tube state pri age delay ttr time-left file reserves timeouts releases buries kicks"
	tubeKeys = "name current-jobs-urgent current-jobs-ready current-jobs-reserved current-jobs-delayed current-jobs-buried " +
		"total-jobs current-using current-waiting current-watching pause cmd-delete cmd-pause-tube pause-time-left"
	shopKeys = "current-jobs-urgent current-jobs-ready current-jobs-reserved current-jobs-delayed current-jobs-buried " +
		"cmd-put cmd-use cmd-reserve cmd-reserve-with-timeout cmd-reserve-job cmd-delete cmd-release cmd-bury cmd-touch cmd-watch cmd-ignore " +
		"cmd-peek cmd-peek-ready cmd-peek-delayed cmd-peek-buried cmd-kick cmd-kick-job cmd-stats-job cmd-stats-tube cmd-stats " +
		"cmd-list-tubes cmd-list-tube-used cmd-list-tubes-watched cmd-pause-tube " +
		"job-timeouts total-jobs max-job-size current-tubes current-connections current-producers current-workers current-waiting " +
		"total-connections uptime binlog-oldest-index binlog-current-index binlog-records-migrated binlog-records-written binlog-max-size draining"
)

// Numbers that are told as they are.
var rightNumbers = []int{0, 1, 9, 10, 99, 120, 1023, 1024, 65535, 65536, 1<<31 - 1, 1 << 31, 1<<32 - 1, 1 << 32, 1<<40 - 1, 1 << 40, 1<<40 + 1, 1<<53 + 1, 1<<62 - 1, 1 << 62, math.MaxInt - 1, math.MaxInt}

// Numbers that are not told.
var wrongNumbers = []int{-1, -2, -10, -1 << 31, -1 << 32, -1 << 40, -1 << 62, math.MinInt + 1, math.MinInt}

// Texts that stand as they are in a dictionary, tubes' names or not.
var rightTexts = []string{"a", "default", "-", "-a", ":", "a:b", "---", "!", "~", "\"", "#", "0", "true", "a/b;c.d$e_f(g)", strings.Repeat("a", 200), strings.Repeat("a", 201), strings.Repeat("~", 4095), strings.Repeat("-", 4096)}

// Texts that no dictionary has as a value.
var wrongTexts = []string{"", " ", "a b", " a", "a ", "a\n", "\na", "a\nid: 7", "\r", "\t", "\x00", "a\x1f", "\x7f", "\x80", "\xff", "é", "日本", strings.Repeat("a", 4097), strings.Repeat("a", 4096) + "\n", strings.Repeat("a", 1<<20)}

// Lists of this many pairs are told.
var pairsOf = map[string]int{jobKeys: 14, tubeKeys: 14, shopKeys: 45}

// aJob is a job of which no two numbers are alike.
func aJob() api.Job {
	return api.Job{
		Id: 101, Pri: 102, Delay: 103, TTR: 104, Born: 105, State: api.Reserved, Due: 306, Order: 107, Holder: 8,
		Counts: api.Counts{Reserves: 109, Timeouts: 110, Releases: 111, Buries: 112, Kicks: 113},
		Tube:   "mail", Body: []byte("hello"),
	}
}

// aTube is a tube of which no two numbers are alike.
func aTube() api.Tube {
	return api.Tube{
		Name: "mail", Sums: api.Sums{Ready: 101, Delayed: 102, Reserved: 103, Buried: 104, Urgent: 105},
		Using: 106, Watching: 107, Waiting: 108, Total: 109, Deletes: 110, Pauses: 111, Pause: 112, Until: 313,
	}
}

// aShop is a shop of which no two numbers are alike.
func aShop() api.Shop {
	s := api.Shop{
		Now: 301, Start: 102, Sums: api.Sums{Ready: 103, Delayed: 104, Reserved: 105, Buried: 106, Urgent: 107},
		Timeouts: 108, Total: 109, Opened: 110, Tubes: 111, Seats: 112, Producers: 113, Workers: 114, Waiting: 115, JobMax: 116,
		Oldest: 117, Newest: 118, Moved: 119, Written: 120, Room: 121, Segment: 122,
	}
	for kind := range s.Done {
		s.Done[kind] = 500 + kind
	}
	return s
}

// lines is a dictionary's text, of its keys and of the value for each.
func lines(keys string, values ...any) string {
	text := "---\n"
	list := strings.Fields(keys)
	if len(list) != len(values) {
		panic(fmt.Sprint("a mistake of the test: ", len(list), " keys, ", len(values), " values"))
	}
	for i, key := range list {
		text += fmt.Sprintf("%s: %v\n", key, values[i])
	}
	return text
}

func wantText(t *testing.T, what string, got []byte, want string) {
	t.Helper()
	if string(got) != want {
		t.Fatalf("%s: %.2000q, not %.2000q", what, got, want)
	}
}

func wantNone(t *testing.T, what string, got []byte) {
	t.Helper()
	if len(got) > 0 {
		t.Fatalf("%s: %.2000q, not no bytes", what, got)
	}
}

// value is the one that a text has for a key.
func value(t *testing.T, text []byte, key string) string {
	t.Helper()
	_, rest, ok := strings.Cut(string(text), "\n"+key+": ")
	if !ok {
		t.Fatalf("no %s in %.2000q", key, text)
	}
	v, _, _ := strings.Cut(rest, "\n")
	return v
}

func wantValue(t *testing.T, text []byte, key, want string) {
	t.Helper()
	if got := value(t, text, key); got != want {
		t.Fatalf("%s: %q, not %q", key, got, want)
	}
}

// wantOther: the text has n for the key, and is as it was but for that.
func wantOther(t *testing.T, was, got []byte, key string, n int) {
	t.Helper()
	line := "\n" + key + ": "
	want := strings.Replace(string(was), line+value(t, was, key)+"\n", line+fmt.Sprint(n)+"\n", 1)
	wantText(t, fmt.Sprint(key, " ", n), got, want)
}

// Example 1.
func TestExampleJob(t *testing.T) {
	j := api.Job{Id: 7, Pri: 5, Delay: 0, TTR: 60, Born: 10, State: api.Reserved, Due: 72, Holder: 2, Counts: api.Counts{Reserves: 1}, Tube: "a"}
	want := `---
id: 7
tube: a
state: reserved
pri: 5
age: 10
delay: 0
ttr: 60
time-left: 52
file: 3
reserves: 1
timeouts: 0
releases: 0
buries: 0
kicks: 0
`
	wantText(t, "at 20", Job(j, 3, 20), want)
	want = strings.Replace(want, "age: 10", "age: 70", 1)
	want = strings.Replace(want, "time-left: 52", "time-left: 0", 1)
	wantText(t, "at 80", Job(j, 3, 80), want)
	ready := j
	ready.State = api.Ready
	wantValue(t, Job(ready, 3, 20), "time-left", "0")
	wantValue(t, Job(ready, 3, 20), "state", "ready")
	stateless, tubeless, wrong := j, j, j
	stateless.State = 0
	wantNone(t, "State 0", Job(stateless, 3, 20))
	tubeless.Tube = ""
	wantNone(t, "Tube empty", Job(tubeless, 3, 20))
	wrong.Pri = -1
	wantNone(t, "Pri -1", Job(wrong, 3, 20))
}

// Example 2.
func TestExampleTube(t *testing.T) {
	text := Tube(api.Tube{Name: "a", Pause: 5, Until: 12}, 10)
	wantText(t, "paused", text, lines(tubeKeys, "a", 0, 0, 0, 0, 0, 0, 0, 0, 0, 5, 0, 0, 2))
	text = Tube(api.Tube{Name: "a", Pause: 0, Until: 12}, 10)
	wantText(t, "not paused", text, lines(tubeKeys, "a", 0, 0, 0, 0, 0, 0, 0, 0, 0, 0, 0, 0, 0))
}

// Example 3.
func TestExampleShop(t *testing.T) {
	s := api.Shop{Now: 9, Start: 4}
	s.Done[api.CmdPut] = 3
	text := Shop(s)
	wantValue(t, text, "cmd-put", "3")
	wantValue(t, text, "cmd-pause-tube", "0")
	wantValue(t, text, "uptime", "5")
	wantValue(t, text, "draining", "false")
	if n := bytes.Count(text, []byte("\n")); n != 46 {
		t.Fatal("lines:", n)
	}
}

// P13.1: each value stands at its key, in the table's order.
func TestJob(t *testing.T) {
	wantText(t, "a job", Job(aJob(), 42, 205), lines(jobKeys, 101, "mail", "reserved", 102, 100, 103, 104, 101, 42, 109, 110, 111, 112, 113))
	wantNone(t, "no job", Job(api.Job{}, 0, 0))
}

// P13.2: each value stands at its key, in the table's order.
func TestTube(t *testing.T) {
	wantText(t, "a tube", Tube(aTube(), 300), lines(tubeKeys, "mail", 105, 101, 103, 102, 104, 109, 106, 108, 107, 112, 110, 111, 13))
	wantNone(t, "no tube", Tube(api.Tube{}, 0))
}

// P13.3: each value stands at its key, in the table's order.
func TestShop(t *testing.T) {
	want := lines(shopKeys, 107, 103, 105, 104, 106,
		501, 502, 503, 504, 505, 506, 507, 508, 509, 510, 511, 512, 513, 514, 515, 516, 517, 518, 519, 520, 521, 522, 523, 524,
		108, 109, 116, 111, 112, 113, 114, 115, 110, 199, 117, 118, 119, 120, 122, "false")
	wantText(t, "a shop", Shop(aShop()), want)
	s := aShop()
	s.Draining = true
	wantText(t, "a shop that drains", Shop(s), strings.Replace(want, "draining: false", "draining: true", 1))
	nothing := "---\n"
	for _, key := range strings.Fields(shopKeys)[:44] {
		nothing += key + ": 0\n"
	}
	wantText(t, "no shop", Shop(api.Shop{}), nothing+"draining: false\n")
}

// P13.1: each number of a job, alone, right and wrong.
func TestJobNumbers(t *testing.T) {
	fields := map[string]func(j *api.Job) *int{
		"id":       func(j *api.Job) *int { return &j.Id },
		"pri":      func(j *api.Job) *int { return &j.Pri },
		"delay":    func(j *api.Job) *int { return &j.Delay },
		"ttr":      func(j *api.Job) *int { return &j.TTR },
		"reserves": func(j *api.Job) *int { return &j.Counts.Reserves },
		"timeouts": func(j *api.Job) *int { return &j.Counts.Timeouts },
		"releases": func(j *api.Job) *int { return &j.Counts.Releases },
		"buries":   func(j *api.Job) *int { return &j.Counts.Buries },
		"kicks":    func(j *api.Job) *int { return &j.Counts.Kicks },
	}
	was := Job(aJob(), 42, 205)
	for key, field := range fields {
		for _, n := range rightNumbers {
			j := aJob()
			*field(&j) = n
			wantOther(t, was, Job(j, 42, 205), key, n)
		}
		for _, n := range wrongNumbers {
			j := aJob()
			*field(&j) = n
			wantNone(t, fmt.Sprint(key, " ", n), Job(j, 42, 205))
		}
	}
	for _, n := range rightNumbers {
		wantOther(t, was, Job(aJob(), n, 205), "file", n)
	}
	for _, n := range wrongNumbers {
		wantNone(t, fmt.Sprint("file ", n), Job(aJob(), n, 205))
	}
}

// P13.2: each number of a tube, alone, right and wrong.
func TestTubeNumbers(t *testing.T) {
	fields := map[string]func(x *api.Tube) *int{
		"current-jobs-urgent":   func(x *api.Tube) *int { return &x.Sums.Urgent },
		"current-jobs-ready":    func(x *api.Tube) *int { return &x.Sums.Ready },
		"current-jobs-reserved": func(x *api.Tube) *int { return &x.Sums.Reserved },
		"current-jobs-delayed":  func(x *api.Tube) *int { return &x.Sums.Delayed },
		"current-jobs-buried":   func(x *api.Tube) *int { return &x.Sums.Buried },
		"total-jobs":            func(x *api.Tube) *int { return &x.Total },
		"current-using":         func(x *api.Tube) *int { return &x.Using },
		"current-waiting":       func(x *api.Tube) *int { return &x.Waiting },
		"current-watching":      func(x *api.Tube) *int { return &x.Watching },
		"cmd-delete":            func(x *api.Tube) *int { return &x.Deletes },
		"cmd-pause-tube":        func(x *api.Tube) *int { return &x.Pauses },
	}
	was := Tube(aTube(), 300)
	for key, field := range fields {
		for _, n := range rightNumbers {
			x := aTube()
			*field(&x) = n
			wantOther(t, was, Tube(x, 300), key, n)
		}
		for _, n := range wrongNumbers {
			x := aTube()
			*field(&x) = n
			wantNone(t, fmt.Sprint(key, " ", n), Tube(x, 300))
		}
	}
}

// P13.3: each number of a shop, alone, right and wrong.
func TestShopNumbers(t *testing.T) {
	fields := map[string]func(s *api.Shop) *int{
		"current-jobs-urgent":     func(s *api.Shop) *int { return &s.Sums.Urgent },
		"current-jobs-ready":      func(s *api.Shop) *int { return &s.Sums.Ready },
		"current-jobs-reserved":   func(s *api.Shop) *int { return &s.Sums.Reserved },
		"current-jobs-delayed":    func(s *api.Shop) *int { return &s.Sums.Delayed },
		"current-jobs-buried":     func(s *api.Shop) *int { return &s.Sums.Buried },
		"job-timeouts":            func(s *api.Shop) *int { return &s.Timeouts },
		"total-jobs":              func(s *api.Shop) *int { return &s.Total },
		"max-job-size":            func(s *api.Shop) *int { return &s.JobMax },
		"current-tubes":           func(s *api.Shop) *int { return &s.Tubes },
		"current-connections":     func(s *api.Shop) *int { return &s.Seats },
		"current-producers":       func(s *api.Shop) *int { return &s.Producers },
		"current-workers":         func(s *api.Shop) *int { return &s.Workers },
		"current-waiting":         func(s *api.Shop) *int { return &s.Waiting },
		"total-connections":       func(s *api.Shop) *int { return &s.Opened },
		"binlog-oldest-index":     func(s *api.Shop) *int { return &s.Oldest },
		"binlog-current-index":    func(s *api.Shop) *int { return &s.Newest },
		"binlog-records-migrated": func(s *api.Shop) *int { return &s.Moved },
		"binlog-records-written":  func(s *api.Shop) *int { return &s.Written },
		"binlog-max-size":         func(s *api.Shop) *int { return &s.Segment },
	}
	for i, key := range strings.Fields(shopKeys)[5:29] {
		fields[key] = func(s *api.Shop) *int { return &s.Done[i+1] }
	}
	was := Shop(aShop())
	for key, field := range fields {
		for _, n := range rightNumbers {
			s := aShop()
			*field(&s) = n
			wantOther(t, was, Shop(s), key, n)
		}
		for _, n := range wrongNumbers {
			s := aShop()
			*field(&s) = n
			wantNone(t, fmt.Sprint(key, " ", n), Shop(s))
		}
	}
}

// P13.3: Room, how often quit was done, and what stands at the kind 0, are not told, whatever they are.
func TestNotTold(t *testing.T) {
	shop, job := Shop(aShop()), Job(aJob(), 42, 205)
	for _, n := range slices.Concat(rightNumbers, wrongNumbers) {
		s := aShop()
		s.Room, s.Done[0], s.Done[api.CmdQuit] = n, n, n
		wantText(t, fmt.Sprint("Room, none and quit ", n), Shop(s), string(shop))
		// P13.1: nor is a job's Order, its Holder, its body.
		j := aJob()
		j.Order, j.Holder = n, n
		wantText(t, fmt.Sprint("Order and Holder ", n), Job(j, 42, 205), string(job))
	}
	for _, body := range []string{"", "\n", "a b", "\x00\xff", strings.Repeat("x", 1<<16)} {
		j := aJob()
		j.Body = []byte(body)
		wantText(t, "a body", Job(j, 42, 205), string(job))
	}
	if strings.Contains(string(shop), "quit") || strings.Contains(string(shop), "room") {
		t.Fatalf("quit or room is told: %q", shop)
	}
}

// P13.1: the states, and numbers that are none.
func TestStates(t *testing.T) {
	for state, want := range []string{"", "ready", "delayed", "reserved", "buried"} {
		j := aJob()
		j.State = state
		if want == "" {
			wantNone(t, "State 0", Job(j, 42, 205))
			continue
		}
		wantValue(t, Job(j, 42, 205), "state", want)
	}
	for _, state := range slices.Concat(wrongNumbers, []int{5, 6, 255, 256, 257, 258, 1 << 32, 1<<32 + 1, 1<<62 + 3, math.MaxInt}) {
		j := aJob()
		j.State = state
		wantNone(t, fmt.Sprint("State ", state), Job(j, 42, 205))
	}
}

// P13.1, P13.2: a tube's name is told as it is, if a dictionary takes it.
func TestTexts(t *testing.T) {
	for _, text := range rightTexts {
		j, x := aJob(), aTube()
		j.Tube, x.Name = text, text
		wantText(t, "tube", Job(j, 42, 205), lines(jobKeys, 101, text, "reserved", 102, 100, 103, 104, 101, 42, 109, 110, 111, 112, 113))
		wantText(t, "name", Tube(x, 300), lines(tubeKeys, text, 105, 101, 103, 102, 104, 109, 106, 108, 107, 112, 110, 111, 13))
	}
	for _, text := range wrongTexts {
		j, x := aJob(), aTube()
		j.Tube, x.Name = text, text
		wantNone(t, fmt.Sprintf("tube %.99q", text), Job(j, 42, 205))
		wantNone(t, fmt.Sprintf("name %.99q", text), Tube(x, 300))
	}
}

// differences: a less b, if it is above it; where no int has a - b it is below 0, as Go subtracts.
var differences = []struct {
	a, b int
	want string
}{
	{0, 0, "0"}, {1, 0, "1"}, {0, 1, "0"}, {5, 5, "0"}, {6, 5, "1"}, {4, 5, "0"}, {20, 10, "10"}, {10, 20, "0"}, {1 << 40, 1, "1099511627775"},
	{0, -1, "1"}, {-1, 0, "0"}, {-1, -1, "0"}, {-3, -10, "7"}, {-10, -3, "0"}, {5, -5, "10"}, {-5, 5, "0"},
	{math.MaxInt, 0, "9223372036854775807"}, {math.MaxInt, 1, "9223372036854775806"}, {math.MaxInt, math.MaxInt, "0"}, {math.MaxInt, math.MaxInt - 1, "1"},
	{0, math.MaxInt, "0"}, {-1, math.MaxInt, "0"}, {-2, math.MaxInt, "0"}, {math.MinInt, math.MaxInt, "0"}, {math.MinInt, 0, "0"}, {math.MinInt, 1, "0"}, {math.MinInt, math.MinInt, "0"},
	{-1, math.MinInt, "9223372036854775807"}, {-2, math.MinInt, "9223372036854775806"}, {math.MinInt + 1, math.MinInt, "1"}, {math.MinInt, math.MinInt + 1, "0"},
	{math.MaxInt, -1, ""}, {math.MaxInt - 1, -1, "9223372036854775807"}, {math.MaxInt - 1, -2, ""}, {0, math.MinInt, ""}, {1, math.MinInt, ""}, {math.MaxInt, math.MinInt, ""},
	{1 << 62, -1 << 62, ""}, {1<<62 - 1, -1 << 62, "9223372036854775807"}, {1 << 62, 1 - 1<<62, "9223372036854775807"},
}

// wantDifference: the value is the difference, or nothing is told if that is below 0.
func wantDifference(t *testing.T, text []byte, key, want string, a, b int) {
	t.Helper()
	if want == "" {
		wantNone(t, fmt.Sprint(key, " of ", a, " and ", b), text)
		return
	}
	wantValue(t, text, key, want)
}

// P13.1: the age, at all clocks.
func TestAge(t *testing.T) {
	for _, d := range differences {
		for _, state := range []int{api.Ready, api.Delayed, api.Reserved, api.Buried} {
			j := aJob()
			j.State, j.Born, j.Due = state, d.b, d.a
			wantDifference(t, Job(j, 42, d.a), "age", d.want, d.a, d.b)
		}
	}
}

// P13.1: the time that is left of a delay or a reservation; of other jobs it is 0, whatever Due is.
func TestTimeLeft(t *testing.T) {
	for _, d := range differences {
		for _, state := range []int{api.Delayed, api.Reserved} {
			j := aJob()
			j.State, j.Due, j.Born = state, d.a, d.b
			wantDifference(t, Job(j, 42, d.b), "time-left", d.want, d.a, d.b)
		}
		for _, state := range []int{api.Ready, api.Buried} {
			j := aJob()
			j.State, j.Due, j.Born = state, d.a, d.b
			wantValue(t, Job(j, 42, d.b), "time-left", "0")
		}
	}
}

// P13.2: the time that is left of a pause; without a pause it is 0, whatever Until is.
func TestPauseLeft(t *testing.T) {
	for _, d := range differences {
		for _, pause := range []int{1, 2, 5, 1<<32 - 1, math.MaxInt} {
			x := aTube()
			x.Pause, x.Until = pause, d.a
			text := Tube(x, d.b)
			wantDifference(t, text, "pause-time-left", d.want, d.a, d.b)
			if d.want != "" {
				wantValue(t, text, "pause", fmt.Sprint(pause))
			}
		}
		x := aTube()
		x.Pause, x.Until = 0, d.a
		text := Tube(x, d.b)
		wantValue(t, text, "pause-time-left", "0")
		wantValue(t, text, "pause", "0")
		for _, pause := range wrongNumbers {
			x.Pause = pause
			wantNone(t, fmt.Sprint("pause ", pause), Tube(x, d.b))
		}
	}
}

// P13.3: the uptime, at all clocks.
func TestUptime(t *testing.T) {
	for _, d := range differences {
		s := aShop()
		s.Now, s.Start = d.a, d.b
		wantDifference(t, Shop(s), "uptime", d.want, d.a, d.b)
	}
}

// wantRead: P13.4.
func wantRead(t *testing.T, text []byte, keys string, texts ...string) {
	t.Helper()
	pairs, err := yaml.ReadDict(text)
	if err != api.OK || len(pairs) != pairsOf[keys] {
		t.Fatalf("read back: %d pairs, %d, of %.2000q", len(pairs), err, text)
	}
	for i, key := range strings.Fields(keys) {
		p := pairs[i]
		if p.Key != key {
			t.Fatalf("the key %d: %q, not %q", i, p.Key, key)
		}
		if slices.Contains(texts, key) {
			continue
		}
		n, ok := digits.Parse(p.Value, math.MaxInt)
		if !ok || digits.Print(n) != p.Value {
			t.Fatalf("%s: %q is no number", key, p.Value)
		}
	}
}

// P13.4: what is told is read back.
func TestReadBack(t *testing.T) {
	wantRead(t, Job(aJob(), 42, 205), jobKeys, "tube", "state")
	wantRead(t, Tube(aTube(), 300), tubeKeys, "name")
	wantRead(t, Shop(aShop()), shopKeys, "draining")
	wantRead(t, Shop(api.Shop{}), shopKeys, "draining")
	for _, text := range rightTexts {
		j, x := aJob(), aTube()
		j.Tube, x.Name = text, text
		wantRead(t, Job(j, 42, 205), jobKeys, "tube", "state")
		wantRead(t, Tube(x, 300), tubeKeys, "name")
	}
}

// plainLess is a less b by numbers of any size; "" where it is told by no int.
func plainLess(a, b int) string {
	d := new(big.Int).Sub(big.NewInt(int64(a)), big.NewInt(int64(b)))
	if d.Sign() < 0 {
		d.SetInt64(0)
	}
	if !d.IsInt64() {
		return ""
	}
	return d.String()
}

// plainNumber is a number's text; "" where it has none.
func plainNumber(n int) string {
	if strings.HasPrefix(fmt.Sprint(n), "-") {
		return ""
	}
	return fmt.Sprint(n)
}

// plainDict is what is to be told; nothing, if one value is empty.
func plainDict(keys string, values []string) string {
	var list []any
	for _, v := range values {
		if v == "" {
			return ""
		}
		list = append(list, v)
	}
	return lines(keys, list...)
}

// dice throws numbers: mostly small ones.
type dice struct{ *rand.Rand }

func (d dice) number() int {
	switch d.Intn(400) {
	case 0:
		return -1 - d.Intn(3)
	case 1:
		return d.Intn(1<<62)*4 + d.Intn(4) // any int
	case 2, 3:
		return 1 << d.Intn(63)
	}
	return d.Intn(30)
}

func (d dice) sums() (api.Sums, []string) {
	s := api.Sums{Ready: d.number(), Delayed: d.number(), Reserved: d.number(), Buried: d.number(), Urgent: d.number()}
	return s, []string{plainNumber(s.Urgent), plainNumber(s.Ready), plainNumber(s.Reserved), plainNumber(s.Delayed), plainNumber(s.Buried)}
}

func (d dice) job(t *testing.T) bool {
	j := api.Job{Id: d.number(), Pri: d.number(), Delay: d.number(), TTR: d.number(), Born: d.number(), State: 1 + d.Intn(4), Due: d.number(), Order: d.number(), Holder: d.number(), Tube: "t"}
	j.Counts = api.Counts{Reserves: d.number(), Timeouts: d.number(), Releases: d.number(), Buries: d.number(), Kicks: d.number()}
	file, now := d.number(), d.number()
	left := "0"
	if j.State == 2 || j.State == 3 {
		left = plainLess(j.Due, now)
	}
	want := plainDict(jobKeys, []string{
		plainNumber(j.Id), "t", strings.Fields("ready delayed reserved buried")[j.State-1], plainNumber(j.Pri), plainLess(now, j.Born), plainNumber(j.Delay), plainNumber(j.TTR), left, plainNumber(file),
		plainNumber(j.Counts.Reserves), plainNumber(j.Counts.Timeouts), plainNumber(j.Counts.Releases), plainNumber(j.Counts.Buries), plainNumber(j.Counts.Kicks)})
	wantText(t, fmt.Sprint("Job ", j, file, now), Job(j, file, now), want)
	return want != ""
}

func (d dice) tube(t *testing.T) bool {
	x := api.Tube{Name: "t", Using: d.number(), Watching: d.number(), Waiting: d.number(), Total: d.number(), Deletes: d.number(), Pauses: d.number(), Pause: d.number() % 3, Until: d.number()}
	sums, told := d.sums()
	x.Sums = sums
	now := d.number()
	left := "0"
	if x.Pause != 0 {
		left = plainLess(x.Until, now)
	}
	values := slices.Concat([]string{"t"}, told, []string{
		plainNumber(x.Total), plainNumber(x.Using), plainNumber(x.Waiting), plainNumber(x.Watching), plainNumber(x.Pause), plainNumber(x.Deletes), plainNumber(x.Pauses), left})
	want := plainDict(tubeKeys, values)
	wantText(t, fmt.Sprint("Tube ", x, now), Tube(x, now), want)
	return want != ""
}

func (d dice) shop(t *testing.T) bool {
	s := api.Shop{
		Now: d.number(), Start: d.number(), Timeouts: d.number(), Total: d.number(), Opened: d.number(), Tubes: d.number(), Seats: d.number(), Producers: d.number(), Workers: d.number(),
		Waiting: d.number(), JobMax: d.number(), Oldest: d.number(), Newest: d.number(), Moved: d.number(), Written: d.number(), Room: d.number(), Segment: d.number(), Draining: d.Intn(2) == 0}
	sums, values := d.sums()
	s.Sums = sums
	for kind := range s.Done {
		s.Done[kind] = d.number()
	}
	for _, n := range s.Done[1:25] {
		values = append(values, plainNumber(n))
	}
	for _, n := range []int{s.Timeouts, s.Total, s.JobMax, s.Tubes, s.Seats, s.Producers, s.Workers, s.Waiting, s.Opened} {
		values = append(values, plainNumber(n))
	}
	values = append(values, plainLess(s.Now, s.Start))
	for _, n := range []int{s.Oldest, s.Newest, s.Moved, s.Written, s.Segment} {
		values = append(values, plainNumber(n))
	}
	want := plainDict(shopKeys, append(values, fmt.Sprint(s.Draining)))
	wantText(t, fmt.Sprint("Shop ", s), Shop(s), want)
	return want != ""
}

// P13.1 to P13.3: random jobs, tubes and shops against a plain telling.
func TestRandom(t *testing.T) {
	d := dice{rand.New(rand.NewSource(13))}
	told, none := [3]int{}, [3]int{}
	for range 20000 {
		for i, throw := range []func(*testing.T) bool{d.job, d.tube, d.shop} {
			if throw(t) {
				told[i]++
			} else {
				none[i]++
			}
		}
	}
	for i := range 3 {
		if told[i] < 500 || none[i] < 500 {
			t.Fatal("too few of a kind:", told, none)
		}
	}
}

// scribble writes over a list and over the spare room behind it.
func scribble(b []byte) {
	b = b[:cap(b)]
	for i := range b {
		b[i] = 'X'
	}
}

// R4: what is told is new memory each time, its spare room too.
func TestToldIsNew(t *testing.T) {
	calls := map[string]func() []byte{
		"Job":  func() []byte { return Job(aJob(), 42, 205) },
		"Tube": func() []byte { return Tube(aTube(), 300) },
		"Shop": func() []byte { return Shop(aShop()) },
	}
	for what, call := range calls {
		want := strings.Clone(string(call()))
		first, second := call(), call()
		scribble(first)
		wantText(t, what+" told earlier", second, want)
		wantText(t, what+" told later", call(), want)
		scribble(second)
		if strings.Trim(string(first[:cap(first)]), "X") != "" {
			t.Fatal(what, "shares its memory")
		}
		wantText(t, what+" told at last", call(), want)
	}
}

// R4: what is handed in is not changed, nor the spare room behind a body, nor kept.
func TestHandedIn(t *testing.T) {
	room := []byte("hello, spare room")
	j := aJob()
	j.Body = room[:5]
	text := Job(j, 42, 205)
	if string(room) != "hello, spare room" {
		t.Fatalf("the body is changed: %q", room)
	}
	want := strings.Clone(string(text))
	scribble(room)
	wantText(t, "the text behind a change of the body", text, want)
}

// R5: calls side by side answer as those one behind the other.
func TestSideBySide(t *testing.T) {
	job, tube, shop := string(Job(aJob(), 42, 205)), string(Tube(aTube(), 300)), string(Shop(aShop()))
	var wg sync.WaitGroup
	for range 8 {
		wg.Go(func() {
			for range 200 {
				if string(Job(aJob(), 42, 205)) != job || string(Tube(aTube(), 300)) != tube || string(Shop(aShop())) != shop {
					t.Error("another answer")
				}
			}
		})
	}
	wg.Wait()
}

// R1: a name of many bytes ends soon.
func TestGreatNames(t *testing.T) {
	name := strings.Repeat("a", 1<<26)
	begin := time.Now()
	j, x := aJob(), aTube()
	j.Tube, x.Name = name, name
	for range 100 {
		wantNone(t, "a great tube", Job(j, 42, 205))
		wantNone(t, "a great name", Tube(x, 300))
	}
	if took := time.Since(begin); took > 5*time.Second {
		t.Fatal("it took", took)
	}
}
