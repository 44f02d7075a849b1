package store_test

import (
	"bytes"
	"math"
	"strings"
	"testing"

	"dunnage/api"
	"dunnage/store"
)

const mostData = 100 // bytes of a checkpoint

// point is a checkpoint, as the chapter's words have it.
type point struct {
	job, epoch int
	data       string
	counts     bool
}

// words is a store as the chapter's words say: its checkpoints in a heap.
type words struct {
	room, term, writes int
	points             []point
}

func wordsOf(room int) *words {
	if room < 0 {
		room = 0
	}
	return &words{room: room}
}

// find is a job's checkpoint that counts, or that is staged; a zero one without.
func (w *words) find(job int, counts bool) point {
	for _, p := range w.points {
		if p.job == job && p.counts == counts {
			return p
		}
	}
	return point{}
}

// without are the checkpoints but a job's that counts, or that is staged.
func (w *words) without(job int, counts bool) []point {
	var l []point
	for _, p := range w.points {
		if p.job != job || p.counts != counts {
			l = append(l, p)
		}
	}
	return l
}

func bytesOf(l []point) int {
	n := 0
	for _, p := range l {
		n += len(p.data)
	}
	return n
}

func (w *words) fence(term int) {
	if term > w.term {
		w.term = term
	}
}

func (w *words) stage(term, job, epoch int, data string) api.Errno {
	staged := w.find(job, false)
	others := w.without(job, false)
	for _, x := range []struct {
		holds bool
		e     api.Errno
	}{
		{term < w.term, api.ErrOld},
		{job < 1, api.ErrArg}, {job > 24, api.ErrArg}, {epoch < 1, api.ErrArg}, {epoch > 1000000, api.ErrArg}, {data == "", api.ErrArg}, {len(data) > mostData, api.ErrArg},
		{epoch <= w.find(job, true).epoch, api.ErrOld}, {epoch < staged.epoch, api.ErrOld},
		{epoch == staged.epoch, api.OK},
		{bytesOf(others)+len(data) > w.room, api.ErrFull},
	} {
		if x.holds {
			return x.e
		}
	}
	w.points = append(others, point{job, epoch, data, false})
	w.writes++
	return api.OK
}

func (w *words) commit(job, epoch int) api.Errno {
	if epoch < 1 {
		return api.ErrNone
	}
	staged := w.find(job, false)
	if w.find(job, true).epoch == epoch {
		return api.OK
	}
	if staged.epoch != epoch {
		return api.ErrNone
	}
	w.end(job)
	staged.counts = true
	w.points = append(w.points, staged)
	return api.OK
}

func (w *words) end(job int) {
	w.points = w.without(job, true)
	w.points = w.without(job, false)
}

func (w *words) get(job, epoch int) (string, bool) {
	for _, p := range w.points {
		if p.job == job && p.epoch == epoch {
			return p.data, true
		}
	}
	return "", false
}

// both is a store, and what the words say of it.
type both struct {
	s *store.Store
	w *words
}

func newBoth(room int) both { return both{store.New(room), wordsOf(room)} }

// step is something that is done to a store.
type step struct {
	what             string
	term, job, epoch int
	data             string
}

func (x both) do(t *testing.T, s step) api.Errno {
	t.Helper()
	var got, want api.Errno
	switch s.what {
	case "fence":
		x.s.Fence(s.term)
		x.w.fence(s.term)
	case "stage":
		got, want = x.s.Stage(s.term, s.job, s.epoch, []byte(s.data)), x.w.stage(s.term, s.job, s.epoch, s.data)
	case "commit":
		got, want = x.s.Commit(s.job, s.epoch), x.w.commit(s.job, s.epoch)
	case "end":
		x.s.End(s.job)
		x.w.end(s.job)
	default:
		t.Fatal("no step:", s.what)
	}
	if got != want {
		t.Errorf("%v: %d, not %d", s, got, want)
	}
	return want
}

// alike asks for everything, of some jobs and epochs, and of those that have checkpoints.
func (x both) alike(t *testing.T, jobs, epochs []int) bool {
	t.Helper()
	ok := x.s.Used() == bytesOf(x.w.points) && x.s.Term() == x.w.term && x.s.Writes() == x.w.writes
	asked := func(job, epoch int) {
		got, had := x.s.Get(job, epoch)
		want, has := x.w.get(job, epoch)
		ok = ok && had == has && string(got) == want && (has || len(got) == 0)
	}
	for _, job := range jobs {
		ok = ok && x.s.Counts(job) == x.w.find(job, true).epoch
		for _, epoch := range epochs {
			asked(job, epoch)
		}
	}
	for _, p := range x.w.points {
		asked(p.job, p.epoch)
	}
	if !ok {
		t.Errorf("used %d term %d writes %d; by the words %d, %v", x.s.Used(), x.s.Term(), x.s.Writes(), bytesOf(x.w.points), x.w)
	}
	return ok
}

func upTo(from, to int) []int {
	var l []int
	for n := from; n <= to; n++ {
		l = append(l, n)
	}
	return l
}

var oddNumbers = []int{math.MinInt, math.MinInt + 1, -1 << 32, -1, 1<<32 + 1, math.MaxInt - 1, math.MaxInt}

func wantStage(t *testing.T, s *store.Store, term, job, epoch int, data string, want api.Errno) {
	t.Helper()
	if got := s.Stage(term, job, epoch, []byte(data)); got != want {
		t.Errorf("Stage(%d, %d, %d, %d bytes): %d, not %d", term, job, epoch, len(data), got, want)
	}
}

func wantCommit(t *testing.T, s *store.Store, job, epoch int, want api.Errno) {
	t.Helper()
	if got := s.Commit(job, epoch); got != want {
		t.Errorf("Commit(%d, %d): %d, not %d", job, epoch, got, want)
	}
}

func wantGet(t *testing.T, s *store.Store, job, epoch int, want string) {
	t.Helper()
	if got, ok := s.Get(job, epoch); !ok || string(got) != want {
		t.Errorf("Get(%d, %d): %q %v, not %q", job, epoch, got, ok, want)
	}
}

func wantNone(t *testing.T, s *store.Store, job int, epochs ...int) {
	t.Helper()
	for _, epoch := range epochs {
		if got, ok := s.Get(job, epoch); ok || len(got) != 0 {
			t.Errorf("Get(%d, %d): %q %v, not none", job, epoch, got, ok)
		}
	}
}

func wantCounts(t *testing.T, s *store.Store, job, want int) {
	t.Helper()
	if got := s.Counts(job); got != want {
		t.Errorf("Counts(%d): %d, not %d", job, got, want)
	}
}

func wantUsed(t *testing.T, s *store.Store, used, writes int) {
	t.Helper()
	if s.Used() != used || s.Writes() != writes {
		t.Errorf("used %d writes %d, not %d and %d", s.Used(), s.Writes(), used, writes)
	}
}

func wantTerm(t *testing.T, s *store.Store, want int) {
	t.Helper()
	if got := s.Term(); got != want {
		t.Errorf("term %d, not %d", got, want)
	}
}

// The chapter's own example.
func TestExample(t *testing.T) {
	s := store.New(5)
	wantStage(t, s, 0, 1, 2, "abc", api.OK)
	wantCommit(t, s, 1, 2, api.OK)
	wantStage(t, s, 0, 1, 3, "xyz", api.ErrFull)
	wantStage(t, s, 0, 1, 2, "x", api.ErrOld)
	wantGet(t, s, 1, 2, "abc")
	wantNone(t, s, 1, 3)
	wantUsed(t, s, 3, 1)
}

// P11.1: stores of all rooms; one below 0 is 0.
func TestNew(t *testing.T) {
	for _, x := range []struct{ room, fits int }{ // how many bytes of one checkpoint there is room for
		{math.MinInt, 0}, {math.MinInt + 1, 0}, {-1 << 32, 0}, {-100, 0}, {-1, 0}, {0, 0},
		{1, 1}, {2, 2}, {5, 5}, {99, 99}, {100, 100}, {101, 100}, {4800, 100}, {1 << 32, 100}, {math.MaxInt - 1, 100}, {math.MaxInt, 100},
	} {
		s := store.New(x.room)
		if s == nil {
			t.Fatal("no store of", x.room)
		}
		wantUsed(t, s, 0, 0)
		wantTerm(t, s, 0)
		for _, job := range upTo(-1, 26) {
			wantCounts(t, s, job, 0)
			wantNone(t, s, job, -1, 0, 1, 2, api.MaxTime)
			wantCommit(t, s, job, 1, api.ErrNone)
		}
		for n := mostData; n > x.fits; n-- {
			wantStage(t, s, 0, 1, 1, strings.Repeat("x", n), api.ErrFull)
		}
		wantUsed(t, s, 0, 0)
		if x.fits > 0 {
			wantStage(t, s, 0, 1, 1, strings.Repeat("x", x.fits), api.OK)
			wantUsed(t, s, x.fits, 1)
		}
	}
}

// P11.1, P11.2: a store's term is the greatest one that it was fenced by, and nothing else raises it; elder terms don't stage.
func TestTerms(t *testing.T) {
	s := store.New(1000)
	epoch := 0
	for _, x := range []struct{ term, want int }{
		{-1, 0}, {math.MinInt, 0}, {0, 0}, {3, 3}, {3, 3}, {2, 3}, {-3, 3}, {0, 3}, {4, 4}, {1, 4}, {api.MaxTime, api.MaxTime}, {api.MaxTime - 1, api.MaxTime}, {api.MaxTime + 1, api.MaxTime + 1}, {1 << 32, 1 << 32}, {5, 1 << 32}, {math.MaxInt - 1, math.MaxInt - 1}, {math.MinInt, math.MaxInt - 1},
	} {
		s.Fence(x.term)
		wantTerm(t, s, x.want)
		for _, term := range []int{math.MinInt, -1 << 32, x.want - 2, x.want - 1} {
			wantStage(t, s, term, 1, epoch+1, "z", api.ErrOld)
		}
		wantNone(t, s, 1, epoch+1)
		wantUsed(t, s, min(epoch, 1), epoch)
		for _, term := range []int{x.want, x.want + 1, math.MaxInt} {
			epoch++
			wantStage(t, s, term, 1, epoch, "a", api.OK)
			wantTerm(t, s, x.want) // staging of a greater term doesn't fence
		}
	}
	s.Fence(math.MaxInt)
	wantTerm(t, s, math.MaxInt)
	wantStage(t, s, math.MaxInt-1, 1, epoch+1, "z", api.ErrOld)
	wantStage(t, s, math.MaxInt, 1, epoch+1, "b", api.OK)
	wantGet(t, s, 1, epoch+1, "b")
}

// P11.1: what was staged ahead of a fence is there behind it, and is committed, whoever staged it.
func TestFenceLeavesCheckpoints(t *testing.T) {
	s := store.New(10)
	wantStage(t, s, 0, 1, 1, "a", api.OK)
	wantCommit(t, s, 1, 1, api.OK)
	wantStage(t, s, 0, 1, 2, "bc", api.OK)
	s.Fence(7)
	wantGet(t, s, 1, 1, "a")
	wantGet(t, s, 1, 2, "bc")
	wantUsed(t, s, 3, 2)
	wantStage(t, s, 6, 1, 2, "bc", api.ErrOld) // staged already, but of an elder term
	wantStage(t, s, 7, 1, 2, "bc", api.OK)
	wantCommit(t, s, 1, 2, api.OK)
	wantGet(t, s, 1, 2, "bc")
	wantCounts(t, s, 1, 2)
	s.Fence(9)
	wantCommit(t, s, 1, 2, api.OK)
	s.End(1)
	wantTerm(t, s, 9)
	wantUsed(t, s, 0, 2)
}

// P11.2: jobs, epochs and data at their edges; what isn't OK changes nothing.
func TestStageArguments(t *testing.T) {
	ab := strings.Repeat("ab", 50)
	for _, x := range []struct {
		job, epoch int
		data       string
		want       api.Errno
	}{
		{1, 1, "a", api.OK}, {2, 1, "a", api.OK}, {23, 1, "a", api.OK}, {24, 1, "a", api.OK},
		{0, 1, "a", api.ErrArg}, {25, 1, "a", api.ErrArg}, {26, 1, "a", api.ErrArg}, {48, 1, "a", api.ErrArg}, {257, 1, "a", api.ErrArg},
		{1, 2, "a", api.OK}, {1, api.MaxTime - 1, "a", api.OK}, {1, api.MaxTime, "a", api.OK},
		{1, 0, "a", api.ErrArg}, {1, api.MaxTime + 1, "a", api.ErrArg}, {24, api.MaxTime + 1, "a", api.ErrArg}, {24, 0, "a", api.ErrArg},
		{1, 1, ab[:2], api.OK}, {1, 1, ab[:99], api.OK}, {1, 1, ab, api.OK}, {24, api.MaxTime, ab, api.OK}, {1, 1, "\x00", api.OK},
		{1, 1, "", api.ErrArg}, {1, 1, ab + "a", api.ErrArg}, {1, 1, ab + ab, api.ErrArg}, {1, 1, strings.Repeat("a", 70000), api.ErrArg},
		{0, 0, "", api.ErrArg},
	} {
		s := store.New(9999)
		wantStage(t, s, 0, x.job, x.epoch, x.data, x.want)
		if x.want == api.OK {
			wantGet(t, s, x.job, x.epoch, x.data)
			wantUsed(t, s, len(x.data), 1)
		} else {
			wantNone(t, s, x.job, x.epoch)
			wantUsed(t, s, 0, 0)
		}
		wantCounts(t, s, x.job, 0)
	}
	s := store.New(9999)
	for _, odd := range oddNumbers {
		wantStage(t, s, 0, odd, 1, "a", api.ErrArg)
		wantStage(t, s, 0, 1, odd, "a", api.ErrArg)
		wantStage(t, s, 0, odd, odd, "a", api.ErrArg)
	}
	if e := s.Stage(0, 1, 1, nil); e != api.ErrArg {
		t.Error("nil data:", e)
	}
	wantUsed(t, s, 0, 0)
}

// P11.2: epochs below, as, and above that which counts, and that which is staged.
func TestStageEpochs(t *testing.T) {
	for _, x := range []struct {
		counting, staged, epoch int // 0: none
		want                    api.Errno
		writes                  int
	}{
		{0, 0, 1, api.OK, 1}, {0, 0, api.MaxTime, api.OK, 1},
		{5, 0, 1, api.ErrOld, 1}, {5, 0, 4, api.ErrOld, 1}, {5, 0, 5, api.ErrOld, 1}, {5, 0, 6, api.OK, 2}, {5, 0, api.MaxTime, api.OK, 2},
		{0, 5, 1, api.ErrOld, 1}, {0, 5, 4, api.ErrOld, 1}, {0, 5, 5, api.OK, 1}, {0, 5, 6, api.OK, 2}, {0, 5, api.MaxTime, api.OK, 2},
		{3, 6, 2, api.ErrOld, 2}, {3, 6, 3, api.ErrOld, 2}, {3, 6, 4, api.ErrOld, 2}, {3, 6, 5, api.ErrOld, 2}, {3, 6, 6, api.OK, 2}, {3, 6, 7, api.OK, 3},
		{1, 2, 1, api.ErrOld, 2}, {1, 2, 2, api.OK, 2}, {1, 2, 3, api.OK, 3},
		{api.MaxTime, 0, api.MaxTime, api.ErrOld, 1}, {api.MaxTime, 0, api.MaxTime - 1, api.ErrOld, 1}, {0, api.MaxTime, api.MaxTime, api.OK, 1}, {api.MaxTime - 1, 0, api.MaxTime, api.OK, 2},
	} {
		s := store.New(99)
		if x.counting > 0 {
			wantStage(t, s, 0, 7, x.counting, "counts", api.OK)
			wantCommit(t, s, 7, x.counting, api.OK)
		}
		if x.staged > 0 {
			wantStage(t, s, 0, 7, x.staged, "staged", api.OK)
		}
		wantStage(t, s, 0, 7, x.epoch, "new", x.want)
		wantCounts(t, s, 7, x.counting)
		used := 0
		if x.counting > 0 {
			wantGet(t, s, 7, x.counting, "counts")
			used += 6
		}
		switch {
		case x.want == api.OK && x.epoch != x.staged:
			wantGet(t, s, 7, x.epoch, "new")
			if x.staged > 0 { // it is none any more
				wantNone(t, s, 7, x.staged)
				wantCommit(t, s, 7, x.staged, api.ErrNone)
			}
			used += 3
		case x.staged > 0:
			wantGet(t, s, 7, x.staged, "staged")
			used += 6
		}
		wantUsed(t, s, used, x.writes)
		wantStage(t, s, 0, 8, 1, "other", api.OK) // other jobs' epochs are their own
		wantGet(t, s, 8, 1, "other")
	}
}

// P11.2: what is staged already is OK, and nothing is done, whatever the data, though there were no room for them; of a greater term too.
func TestStagedTwice(t *testing.T) {
	s := store.New(8)
	wantStage(t, s, 0, 3, 2, "first", api.OK)
	for _, data := range []string{"first", "other", "f", "first!", strings.Repeat("x", mostData)} {
		wantStage(t, s, 0, 3, 2, data, api.OK)
		wantStage(t, s, 5, 3, 2, data, api.OK)
		wantGet(t, s, 3, 2, "first")
		wantUsed(t, s, 5, 1)
		wantCounts(t, s, 3, 0)
	}
	wantStage(t, s, 0, 3, 2, "", api.ErrArg)
	wantStage(t, s, 0, 3, 2, strings.Repeat("x", mostData+1), api.ErrArg)
	wantTerm(t, s, 0)
	wantCommit(t, s, 3, 2, api.OK)
	wantGet(t, s, 3, 2, "first")
	wantStage(t, s, 0, 3, 2, "first", api.ErrOld) // it counts now
	s.End(3)
	wantStage(t, s, 0, 3, 2, "again", api.OK)
	wantGet(t, s, 3, 2, "again")
	wantUsed(t, s, 5, 2)
}

// P11.2: data that just fill the room, and one byte more: in a store without any, beside other jobs', beside what counts, and in the place of what is staged.
func TestRoom(t *testing.T) {
	many := func(n int) string { return strings.Repeat("r", n) }
	for _, x := range []struct {
		name                   string
		room                   int
		other, counting, stage int // bytes of another job's, of what counts, of what is staged
		fits                   int
	}{
		{"empty", 7, 0, 0, 0, 7},
		{"one byte", 1, 0, 0, 0, 1},
		{"beside another", 10, 4, 0, 0, 6},
		{"beside what counts", 10, 0, 3, 0, 7},
		{"in the place of what is staged", 10, 0, 0, 9, 10},
		{"in the place of what fills all", 10, 0, 0, 10, 10},
		{"beside another, in the place of what is staged", 10, 4, 0, 2, 6},
		{"beside what counts, in the place of what is staged", 10, 0, 3, 2, 7},
		{"beside both, in the place of what is staged", 20, 5, 4, 3, 11},
		{"in the place of what is staged, all full", 20, 5, 4, 11, 11},
		{"great", 250, 100, 75, 0, 75},
		{"great, in the place", 250, 100, 75, 75, 75},
	} {
		for _, n := range []int{1, x.fits - 1, x.fits, x.fits + 1, mostData} {
			if n < 1 {
				continue
			}
			s := store.New(x.room)
			if x.other > 0 {
				wantStage(t, s, 0, 24, 9, many(x.other), api.OK)
			}
			if x.counting > 0 {
				wantStage(t, s, 0, 1, 1, many(x.counting), api.OK)
				wantCommit(t, s, 1, 1, api.OK)
			}
			if x.stage > 0 {
				wantStage(t, s, 0, 1, 2, many(x.stage), api.OK)
			}
			writes := s.Writes()
			if n <= x.fits {
				wantStage(t, s, 0, 1, 3, many(n), api.OK)
				wantGet(t, s, 1, 3, many(n))
				wantNone(t, s, 1, 2)
				wantUsed(t, s, x.other+x.counting+n, writes+1)
			} else {
				wantStage(t, s, 0, 1, 3, many(n), api.ErrFull)
				wantNone(t, s, 1, 3)
				wantUsed(t, s, x.other+x.counting+x.stage, writes)
				if x.stage > 0 {
					wantGet(t, s, 1, 2, many(x.stage))
				}
			}
			if t.Failed() {
				t.Fatal(x.name, n)
			}
		}
	}
}

// P11.2: the whole of a store: all jobs have two checkpoints of as many bytes as may be, and the room is just that, or one byte less.
func TestFullStore(t *testing.T) {
	full := strings.Repeat("w", mostData)
	for _, room := range []int{4800, 4799} {
		s := store.New(room)
		for job := 1; job <= 24; job++ {
			wantStage(t, s, 0, job, job, full, api.OK)
			wantCommit(t, s, job, job, api.OK)
		}
		for job := 1; job < 24; job++ {
			wantStage(t, s, 0, job, api.MaxTime, full, api.OK)
		}
		wantUsed(t, s, 4700, 47)
		if room == 4799 {
			wantStage(t, s, 0, 24, api.MaxTime, full, api.ErrFull)
			wantUsed(t, s, 4700, 47)
			wantStage(t, s, 0, 24, api.MaxTime, full[1:], api.OK)
			wantUsed(t, s, 4799, 48)
			continue
		}
		wantStage(t, s, 0, 24, api.MaxTime, full, api.OK)
		wantUsed(t, s, 4800, 48)
		for job := 1; job <= 24; job++ {
			wantGet(t, s, job, job, full)
			wantGet(t, s, job, api.MaxTime, full)
			wantCounts(t, s, job, job)
		}
	}
}

// P11.2: where several errors hold, that which is named first is answered. Each of them is made to hold, or not, beside each choice of the others.
func TestErrorsInOrder(t *testing.T) {
	const elder, wrong, old, room = 1, 2, 4, 8
	for holds := range 16 {
		for _, way := range []string{"job", "epoch", "data", "all"} {
			s := store.New(4)
			s.Fence(3)
			wantStage(t, s, 3, 1, 5, "abc", api.OK)
			wantCommit(t, s, 1, 5, api.OK)
			term, job, epoch, data, want := 3, 1, 6, "z", api.OK
			if holds&room != 0 {
				data, want = "zz", api.ErrFull
			}
			if holds&old != 0 {
				epoch, want = 5, api.ErrOld
			}
			if holds&wrong != 0 {
				want = api.ErrArg
				if way == "job" || way == "all" {
					job = 25
				}
				if way == "epoch" || way == "all" {
					epoch = 0
				}
				if way == "data" || way == "all" {
					data = ""
				}
			}
			if holds&elder != 0 {
				term, want = 2, api.ErrOld
			}
			wantStage(t, s, term, job, epoch, data, want)
			if t.Failed() {
				t.Fatal(holds, way)
			}
		}
	}
	s := store.New(4)
	wantStage(t, s, 0, 1, 2, "abcd", api.OK)
	wantStage(t, s, 0, 1, 1, "abcde", api.ErrOld)                   // ahead of ErrFull
	wantStage(t, s, 0, 1, 2, "abcde", api.OK)                       // likewise
	wantStage(t, s, 0, 1, 2, strings.Repeat("a", 101), api.ErrArg)  // ahead of OK
	wantStage(t, s, 0, 1, 1, strings.Repeat("a", 101), api.ErrArg)  // ahead of ErrOld and ErrFull
	wantStage(t, s, 0, 2, 1, strings.Repeat("a", 100), api.ErrFull) // no other one
	wantStage(t, s, -1, 1, 2, "abcd", api.ErrOld)                   // ahead of OK
	wantStage(t, s, -1, 0, 0, "", api.ErrOld)
	wantGet(t, s, 1, 2, "abcd")
	wantUsed(t, s, 4, 1)
}

// P11.3: what counts already, what is staged, neither; epochs and jobs that are none.
func TestCommit(t *testing.T) {
	s := store.New(50)
	wantStage(t, s, 0, 4, 3, "three", api.OK)
	for _, epoch := range []int{1, 2, 4, 0, -1, -3, api.MaxTime, api.MaxTime + 1, 1<<32 + 3, math.MinInt, math.MaxInt} {
		wantCommit(t, s, 4, epoch, api.ErrNone)
	}
	wantCounts(t, s, 4, 0)
	wantCommit(t, s, 4, 3, api.OK)
	wantCounts(t, s, 4, 3)
	wantUsed(t, s, 5, 1)
	for range 2 {
		wantCommit(t, s, 4, 3, api.OK)
		wantGet(t, s, 4, 3, "three")
		wantUsed(t, s, 5, 1)
	}
	wantStage(t, s, 0, 4, 6, "sixsix", api.OK)
	wantCommit(t, s, 4, 3, api.OK) // that which counts; what is staged stays
	wantGet(t, s, 4, 3, "three")
	wantGet(t, s, 4, 6, "sixsix")
	wantCounts(t, s, 4, 3)
	for _, epoch := range []int{0, 1, 2, 4, 5, 7} {
		wantCommit(t, s, 4, epoch, api.ErrNone)
	}
	wantUsed(t, s, 11, 2)
	wantCommit(t, s, 4, 6, api.OK)
	wantCounts(t, s, 4, 6)
	wantNone(t, s, 4, 3)
	wantGet(t, s, 4, 6, "sixsix")
	wantUsed(t, s, 6, 2)
	wantCommit(t, s, 4, 3, api.ErrNone) // it counted once
	wantCommit(t, s, 4, 6, api.OK)
	wantStage(t, s, 0, 4, 7, "seven", api.OK)
	wantStage(t, s, 0, 4, 8, "eight", api.OK)
	wantCommit(t, s, 4, 7, api.ErrNone) // it was staged once
	wantCommit(t, s, 4, 8, api.OK)
	wantGet(t, s, 4, 8, "eight")
	wantUsed(t, s, 5, 4)
	for _, job := range append(oddNumbers, 0, 3, 5, 25, 28) {
		wantCommit(t, s, job, 8, api.ErrNone)
		wantCommit(t, s, job, 0, api.ErrNone)
	}
	wantCommit(t, s, 4, 8, api.OK)
}

// P11.3: epochs at their edges count as others do.
func TestCommitEdges(t *testing.T) {
	for _, job := range []int{1, 24} {
		s := store.New(3)
		wantStage(t, s, 0, job, 1, "a", api.OK)
		wantCommit(t, s, job, 1, api.OK)
		wantStage(t, s, 0, job, api.MaxTime, "bb", api.OK)
		wantCommit(t, s, job, api.MaxTime, api.OK)
		wantCounts(t, s, job, api.MaxTime)
		wantGet(t, s, job, api.MaxTime, "bb")
		wantNone(t, s, job, 1, api.MaxTime-1, api.MaxTime+1)
		wantStage(t, s, 0, job, api.MaxTime, "c", api.ErrOld)
		wantUsed(t, s, 2, 2)
	}
}

// P11.3: of what counts, of what is staged, of others; of jobs that are none.
func TestGet(t *testing.T) {
	s := store.New(300)
	hundred := strings.Repeat("\x00\xffz0", 25)
	wantStage(t, s, 0, 1, 10, "counts", api.OK)
	wantCommit(t, s, 1, 10, api.OK)
	wantStage(t, s, 0, 1, 20, hundred, api.OK)
	wantStage(t, s, 0, 24, 10, "\x00", api.OK)
	for range 3 { // asking changes nothing
		wantGet(t, s, 1, 10, "counts")
		wantGet(t, s, 1, 20, hundred)
		wantGet(t, s, 24, 10, "\x00")
		wantCounts(t, s, 1, 10)
		wantCounts(t, s, 24, 0)
		wantUsed(t, s, 107, 3)
	}
	for _, epoch := range append(oddNumbers, -10, 0, 1, 9, 11, 15, 19, 21, api.MaxTime, api.MaxTime+1, 1<<32+10) {
		wantNone(t, s, 1, epoch)
	}
	for _, job := range append(oddNumbers, 0, 2, 23, 25, 1<<32+24) {
		wantNone(t, s, job, math.MinInt, -1, 0, 1, 10, 20)
		wantCounts(t, s, job, 0)
	}
	wantNone(t, s, 24, 0, 20)
}

// P11.3: a job with both, with one, with none ends; others stay, and it may begin anew.
func TestEnd(t *testing.T) {
	for _, x := range []struct {
		name             string
		counting, staged bool
	}{{"none", false, false}, {"one that counts", true, false}, {"one that is staged", false, true}, {"both", true, true}} {
		s := store.New(20)
		s.Fence(4)
		writes := 2
		for _, job := range []int{1, 3} {
			wantStage(t, s, 4, job, 1, "near", api.OK)
		}
		if x.counting {
			wantStage(t, s, 4, 2, 5, "ab", api.OK)
			wantCommit(t, s, 2, 5, api.OK)
			writes++
		}
		if x.staged {
			wantStage(t, s, 4, 2, 6, "cde", api.OK)
			writes++
		}
		for range 2 {
			s.End(2)
			wantCounts(t, s, 2, 0)
			wantNone(t, s, 2, 0, 5, 6)
			wantCommit(t, s, 2, 5, api.ErrNone)
			wantCommit(t, s, 2, 6, api.ErrNone)
			wantUsed(t, s, 8, writes)
			wantTerm(t, s, 4)
			wantGet(t, s, 1, 1, "near")
			wantGet(t, s, 3, 1, "near")
		}
		wantStage(t, s, 3, 2, 1, "z", api.ErrOld)
		wantStage(t, s, 4, 2, 1, strings.Repeat("z", 13), api.ErrFull)
		wantStage(t, s, 4, 2, 1, strings.Repeat("z", 12), api.OK) // the room is given back, and epochs begin anew
		wantUsed(t, s, 20, writes+1)
		if t.Failed() {
			t.Fatal(x.name)
		}
	}
}

// P11.3: the end of a job that is none does nothing.
func TestEndOfNone(t *testing.T) {
	s := store.New(200)
	for job := 1; job <= 24; job++ {
		wantStage(t, s, 0, job, 1, "abc", api.OK)
		wantCommit(t, s, job, 1, api.OK)
		wantStage(t, s, 0, job, 2, "defg", api.OK)
	}
	for _, job := range append(oddNumbers, 0, 25, 26, -24, 256, 1<<32) {
		s.End(job)
		wantUsed(t, s, 168, 48)
	}
	for job := 1; job <= 24; job++ { // one behind the other, each its own alone
		wantGet(t, s, job, 1, "abc")
		wantGet(t, s, job, 2, "defg")
		s.End(job)
		wantNone(t, s, job, 1, 2)
		wantUsed(t, s, 168-7*job, 48)
	}
}

// P11.3: each job has checkpoints of its own.
func TestJobsApart(t *testing.T) {
	s := store.New(2000)
	data := func(job, epoch int) string { return strings.Repeat(string(rune('a'+job)), 1+(job+epoch)%9) }
	for job := 24; job >= 1; job-- {
		wantStage(t, s, 0, job, job, data(job, job), api.OK)
		if job%3 > 0 {
			wantCommit(t, s, job, job, api.OK)
			wantStage(t, s, 0, job, job+30, data(job, job+30), api.OK)
		}
	}
	used, writes := 0, 0
	for job := 1; job <= 24; job++ {
		wantGet(t, s, job, job, data(job, job))
		wantNone(t, s, job, job-1, job+1, job+29, job+31)
		used, writes = used+len(data(job, job)), writes+1
		if job%3 == 0 {
			wantCounts(t, s, job, 0)
			wantNone(t, s, job, job+30)
			continue
		}
		wantCounts(t, s, job, job)
		wantGet(t, s, job, job+30, data(job, job+30))
		used, writes = used+len(data(job, job+30)), writes+1
	}
	wantUsed(t, s, used, writes)
}

// P11.3: Writes counts what was staged alone: no errors, nothing staged already, no other calls.
func TestWrites(t *testing.T) {
	s := store.New(6)
	for i, x := range []struct {
		do           func() api.Errno
		want         api.Errno
		used, writes int
	}{
		{func() api.Errno { return s.Stage(0, 1, 1, []byte("ab")) }, api.OK, 2, 1},
		{func() api.Errno { return s.Stage(0, 1, 1, []byte("ab")) }, api.OK, 2, 1},
		{func() api.Errno { return s.Stage(0, 1, 2, []byte("abc")) }, api.OK, 3, 2},
		{func() api.Errno { return s.Stage(0, 1, 1, []byte("a")) }, api.ErrOld, 3, 2},
		{func() api.Errno { return s.Commit(1, 2) }, api.OK, 3, 2},
		{func() api.Errno { return s.Commit(1, 2) }, api.OK, 3, 2},
		{func() api.Errno { return s.Stage(0, 1, 3, []byte("abcd")) }, api.ErrFull, 3, 2},
		{func() api.Errno { return s.Stage(0, 1, 3, []byte("abc")) }, api.OK, 6, 3},
		{func() api.Errno { return s.Stage(0, 1, 4, []byte("a")) }, api.OK, 4, 4},
		{func() api.Errno { return s.Stage(-1, 1, 5, []byte("a")) }, api.ErrOld, 4, 4},
		{func() api.Errno { return s.Stage(0, 0, 5, []byte("a")) }, api.ErrArg, 4, 4},
		{func() api.Errno { return s.Commit(1, 3) }, api.ErrNone, 4, 4},
		{func() api.Errno { s.Fence(1); return api.OK }, api.OK, 4, 4},
		{func() api.Errno { return s.Stage(1, 2, 1, []byte("xy")) }, api.OK, 6, 5},
		{func() api.Errno { return s.Commit(1, 4) }, api.OK, 3, 5},
		{func() api.Errno { s.End(2); return api.OK }, api.OK, 1, 5},
		{func() api.Errno { s.End(1); return api.OK }, api.OK, 0, 5},
		{func() api.Errno { return s.Stage(1, 1, 1, []byte("a")) }, api.OK, 1, 6},
	} {
		if got := x.do(); got != x.want {
			t.Errorf("step %d: %d, not %d", i, got, x.want)
		}
		wantUsed(t, s, x.used, x.writes)
		if t.Failed() {
			t.Fatal("step", i)
		}
	}
}

// A nil store: ErrArg, 0, none.
func TestNil(t *testing.T) {
	var s *store.Store
	for range 2 {
		s.Fence(3)
		for _, n := range append(oddNumbers, 0, 1, 2, 24, 25, api.MaxTime, api.MaxTime+1) {
			s.Fence(n)
			s.End(n)
			wantStage(t, s, n, 1, 1, "a", api.ErrArg)
			wantStage(t, s, 0, n, n, "", api.ErrArg)
			wantStage(t, s, -1, 1, n, "a", api.ErrArg)
			wantCommit(t, s, n, 1, api.ErrArg)
			wantCommit(t, s, 1, n, api.ErrArg)
			wantCommit(t, s, n, n, api.ErrArg)
			wantNone(t, s, n, 0, 1, n)
			wantNone(t, s, 1, n)
			wantCounts(t, s, n, 0)
		}
		if e := s.Stage(0, 1, 1, nil); e != api.ErrArg {
			t.Error(e)
		}
		wantTerm(t, s, 0)
		wantUsed(t, s, 0, 0)
	}
}

// shortSteps are steps of two jobs in a small store: of each kind, and of each error.
func shortSteps() []step {
	l := []step{{what: "fence", term: 1}, {what: "fence", term: -1}, {what: "stage", term: -1, job: 1, epoch: 9, data: "e"}, {what: "stage", job: 3, epoch: 0, data: "a"}}
	for _, job := range []int{1, 2} {
		l = append(l,
			step{what: "stage", term: 1, job: job, epoch: 1, data: "ab"[:job]},
			step{what: "stage", term: job - 1, job: job, epoch: 2, data: "cdef"},
			step{what: "stage", term: 2, job: job, epoch: 3, data: "gh"},
			step{what: "commit", job: job, epoch: 1},
			step{what: "commit", job: job, epoch: 2},
			step{what: "commit", job: job, epoch: 3},
			step{what: "end", job: job},
		)
	}
	return l
}

// P11.1, P11.2, P11.3: each run of few steps, in each order, is what the words say.
func TestEveryRun(t *testing.T) {
	steps := shortSteps()
	const depth = 4
	runs := 1
	for range depth {
		runs *= len(steps)
	}
	met := map[api.Errno]int{}
	for _, room := range []int{0, 3, 6} {
		for run := range runs {
			x := newBoth(room)
			left := run
			for range depth {
				met[x.do(t, steps[left%len(steps)])]++
				left /= len(steps)
			}
			if !x.alike(t, []int{0, 1, 2, 3}, []int{0, 1, 2, 3, 9}) || t.Failed() {
				t.Fatalf("room %d run %d", room, run)
			}
		}
	}
	for _, e := range []api.Errno{api.OK, api.ErrArg, api.ErrFull, api.ErrNone, api.ErrOld} {
		if met[e] == 0 {
			t.Error("no run meets the error", e)
		}
	}
}

// chance is a plain row of numbers, the same one each time.
type chance uint64

func (c *chance) below(n int) int {
	*c = *c*6364136223846793005 + 1442695040888963407
	return int(uint64(*c) >> 33 % uint64(n))
}

// anyStep is a step near what a store has: a term about its own, epochs about those of the job.
func (c *chance) anyStep(w *words, jobs int) step {
	job := 1 + c.below(jobs)
	near := max(w.find(job, true).epoch, w.find(job, false).epoch) - 2 + c.below(5)
	switch n := c.below(40); {
	case n == 0:
		job = []int{0, 25, -1, 1 << 40}[c.below(4)]
	case n == 1:
		near = []int{0, -1, api.MaxTime + 1, math.MinInt}[c.below(4)]
	}
	switch n := c.below(100); {
	case n < 3:
		return step{what: "fence", term: w.term - 2 + c.below(4)}
	case n < 5:
		return step{what: "end", job: job}
	case n < 35:
		return step{what: "commit", job: job, epoch: near}
	}
	data := make([]byte, []int{c.below(4), 1 + c.below(100), 99 + c.below(3), 1 + c.below(12)}[c.below(4)])
	for i := range data {
		data[i] = byte(c.below(256))
	}
	return step{"stage", w.term + []int{-1, 0, 0, 0, 0, 1}[c.below(6)], job, near, string(data)}
}

// longRun is many steps of a store; behind each one it is held against the words, and asked is called.
func longRun(t *testing.T, seed, room, jobs, steps int, asked func(x both, s step, e api.Errno)) {
	t.Helper()
	c := chance(seed)
	x := newBoth(room)
	near := func(job int) []int {
		a, b := x.w.find(job, true).epoch, x.w.find(job, false).epoch
		return []int{a - 1, a, a + 1, b - 1, b, b + 1}
	}
	for k := range steps {
		s := c.anyStep(x.w, jobs)
		e := x.do(t, s)
		if !x.alike(t, []int{s.job}, near(s.job)) || k%50 == 0 && !x.alike(t, upTo(-1, 26), upTo(-1, 9)) || t.Failed() {
			t.Fatalf("seed %d room %d step %d: %v", seed, room, k, s)
		}
		asked(x, s, e)
	}
}

var rooms = []int{-1, 0, 1, 5, 60, 100, 101, 350, 1500, 4799, 5000, math.MaxInt}

// P11.1, P11.2, P11.3: long runs of stores of all rooms are what the words say.
func TestLongRuns(t *testing.T) {
	staged, met := 0, map[api.Errno]int{}
	for i, room := range rooms {
		for _, jobs := range []int{1, 3, 24} {
			longRun(t, 100*i+jobs, room, jobs, 1500, func(x both, s step, e api.Errno) {
				met[e]++
				staged = max(staged, x.w.writes)
			})
		}
	}
	for _, e := range []api.Errno{api.OK, api.ErrArg, api.ErrFull, api.ErrNone, api.ErrOld} {
		if met[e] < 100 {
			t.Error("the runs meet the error", e, "times", met[e])
		}
	}
	if staged < 100 {
		t.Error("no run stages more than", staged)
	}
}

// P11.4: what counts is read byte for byte until a greater epoch counts, or the job ends; Used is never above the room. Held against what was handed in alone.
func TestWhatCountsLasts(t *testing.T) {
	for i, room := range rooms {
		type key struct{ job, epoch int }
		first := map[key]string{} // what was handed in when it was staged
		counts := map[int]key{}
		longRun(t, 7000+i, room, 5, 3000, func(x both, s step, e api.Errno) {
			k := key{s.job, s.epoch}
			switch {
			case s.what == "end":
				delete(counts, s.job)
			case s.what == "stage" && e == api.OK && x.w.find(s.job, false).data == s.data:
				first[k] = s.data
			case s.what == "commit" && e == api.OK:
				if was := counts[s.job].epoch; s.epoch < was {
					t.Fatalf("room %d: %d counts behind %d", room, s.epoch, was)
				}
				counts[s.job] = k
			}
			for job := 1; job <= 5; job++ {
				k, ok := counts[job]
				if x.s.Counts(job) != k.epoch {
					t.Fatalf("room %d %v: job %d counts %d, not %d", room, s, job, x.s.Counts(job), k.epoch)
				}
				if got, had := x.s.Get(job, k.epoch); ok != had || ok && string(got) != first[k] {
					t.Fatalf("room %d %v: job %d epoch %d: not what was staged", room, s, job, k.epoch)
				}
			}
			if x.s.Used() > max(room, 0) || x.s.Used() < 0 {
				t.Fatalf("room %d: %d bytes", room, x.s.Used())
			}
		})
	}
}

// P11.4: what counts is the same, whatever is staged behind it, by whichever term, until that counts.
func TestStagingLeavesWhatCounts(t *testing.T) {
	s := store.New(120)
	wantStage(t, s, 0, 9, 1, "lasts", api.OK)
	wantCommit(t, s, 9, 1, api.OK)
	for epoch := 2; epoch < 60; epoch++ {
		if epoch%7 == 0 {
			s.Fence(epoch)
		}
		for _, term := range []int{-1, epoch - 7, epoch, epoch + 1} {
			for _, n := range []int{0, mostData + 1, mostData, 2 * epoch, 1} {
				s.Stage(term, 9, epoch, bytes.Repeat([]byte{byte(epoch)}, n))
				s.Stage(term, 8, epoch, bytes.Repeat([]byte{byte(epoch)}, n))
				wantGet(t, s, 9, 1, "lasts")
				if s.Used() > 120 {
					t.Error(epoch, s.Used())
				}
			}
		}
		wantGet(t, s, 9, epoch, string(bytes.Repeat([]byte{byte(epoch)}, mostData)))
		wantCommit(t, s, 8, epoch, api.OK)
		wantCommit(t, s, 9, epoch+1, api.ErrNone)
		wantCommit(t, s, 9, 1, api.OK)
		wantGet(t, s, 9, 1, "lasts")
		wantCounts(t, s, 9, 1)
		if epoch%3 == 0 {
			s.End(8)
		}
	}
	wantUsed(t, s, 106, 117)
	wantCommit(t, s, 9, 59, api.OK)
	wantNone(t, s, 9, 1)
}

// Rule 4: data that are handed in are neither changed nor kept, their spare room included.
func TestHandedIn(t *testing.T) {
	whole := []byte("abcdefgh")
	was := bytes.Clone(whole)
	s := store.New(20)
	for _, x := range []struct {
		job, epoch int
		data       []byte
		want       api.Errno
	}{
		{1, 1, whole[1:3:5], api.OK}, {2, 1, whole, api.OK}, {2, 1, whole[:2], api.OK}, {2, 0, whole[:2], api.ErrArg}, {3, 1, whole[:0], api.ErrArg}, {1, 2, whole[4:8], api.OK}, {3, 1, whole, api.OK}, {4, 1, whole[:1], api.ErrFull}, {1, 1, whole[:1], api.ErrOld},
	} {
		if e := s.Stage(0, x.job, x.epoch, x.data); e != x.want {
			t.Errorf("Stage(0, %d, %d, %q): %d, not %d", x.job, x.epoch, x.data, e, x.want)
		}
		if !bytes.Equal(whole, was) {
			t.Fatalf("changed: %q", whole)
		}
	}
	clear(whole) // by their owner
	wantGet(t, s, 1, 2, "efgh")
	wantGet(t, s, 2, 1, "abcdefgh")
	wantCommit(t, s, 2, 1, api.OK)
	copy(whole, "zzzzzzzz")
	wantGet(t, s, 2, 1, "abcdefgh")
	wantGet(t, s, 3, 1, "abcdefgh")
	copy(whole, was)
	wantCommit(t, s, 3, 1, api.OK)
	s.End(2)
	if e := s.Stage(0, 3, 2, whole[2:4]); e != api.OK {
		t.Error(e)
	}
	wantCommit(t, s, 3, 2, api.OK)
	if !bytes.Equal(whole, was) {
		t.Errorf("changed: %q", whole)
	}
}

// spoil writes over a list and its spare room.
func spoil(b []byte) {
	b = b[:cap(b)]
	for i := range b {
		b[i] = '#'
	}
}

// Rule 4: data that are handed out are new memory, their spare room too; neither does their owner change the store, nor the store them.
func TestHandedOut(t *testing.T) {
	s := store.New(40)
	wantStage(t, s, 0, 1, 1, "counts", api.OK)
	wantCommit(t, s, 1, 1, api.OK)
	wantStage(t, s, 0, 1, 2, "staged", api.OK)
	var held [][]byte
	for _, epoch := range []int{1, 2} {
		first, _ := s.Get(1, epoch)
		second, _ := s.Get(1, epoch)
		third, _ := s.Get(1, epoch)
		spoil(first)
		_ = append(second[:1], "####"...)
		held = append(held, third)
	}
	wantGet(t, s, 1, 1, "counts")
	wantGet(t, s, 1, 2, "staged")
	wantCommit(t, s, 1, 2, api.OK)
	wantGet(t, s, 1, 2, "staged")
	last, _ := s.Get(1, 2)
	spoil(last)
	wantGet(t, s, 1, 2, "staged")
	wantStage(t, s, 0, 1, 3, "behind", api.OK)
	wantCommit(t, s, 1, 3, api.OK)
	s.End(1)
	wantStage(t, s, 0, 1, 1, "anew!!", api.OK)
	if string(held[0]) != "counts" || string(held[1]) != "staged" {
		t.Errorf("an answer was changed later: %q", held)
	}
}

// Rules 5 and 6: stores don't hang on each other, nor an answer on what was asked ahead.
func TestStoresApart(t *testing.T) {
	one, other := store.New(10), store.New(3)
	wantStage(t, one, 0, 1, 1, "abc", api.OK)
	wantCommit(t, one, 1, 1, api.OK)
	one.Fence(5)
	wantUsed(t, other, 0, 0)
	wantTerm(t, other, 0)
	wantCounts(t, other, 1, 0)
	wantStage(t, other, 0, 1, 1, "xy", api.OK)
	other.End(2)
	for range 3 {
		wantGet(t, one, 1, 1, "abc")
		wantGet(t, other, 1, 1, "xy")
		wantCounts(t, one, 1, 1)
		wantCounts(t, other, 1, 0)
		wantUsed(t, one, 3, 1)
		wantUsed(t, other, 2, 1)
		wantTerm(t, one, 5)
		wantTerm(t, other, 0)
	}
	other.End(1)
	wantGet(t, one, 1, 1, "abc")
}
