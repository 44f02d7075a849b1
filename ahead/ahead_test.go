package ahead_test

import (
	"math"
	"math/rand/v2"
	"slices"
	"strconv"
	"strings"
	"testing"
	"time"

	"dunnage/ahead"
	"dunnage/api"
	"dunnage/book"
	"dunnage/fit"
	"dunnage/ops"
	"dunnage/rank"
)

const (
	none = -1 // instead of nodes, where there are none
	last = api.MaxTime
)

// far are numbers of no jobs; as times, they are ahead of all, or behind all.
var far = []int{math.MinInt, math.MinInt + 1, -1 << 32, -last, -25, -24, -2, -1, 25, 2 * last, 1<<32 + 1, math.MaxInt - 1, math.MaxInt}

// fleet is one of so many nodes, of three queues, with the greatest quota.
func fleet(nodes int) api.Conf {
	return api.Conf{Nodes: nodes, Queues: 3, Quota: 4, Wave: 2, Lease: 6, Retry: 2, Deadline: 9, Room: 500, Disk: 4000}
}

// queued is a job that waits for least to most nodes of a version (0: any).
func queued(prio, least, most, work, pin int) api.Job {
	return api.Job{Prio: prio, Min: least, Max: most, Work: work, Pin: pin}
}

// held, running and draining are jobs that have nodes; which, state says.

func held(work int) api.Job { return api.Job{Work: work, Phase: api.Held, Inc: 1} }

func running(since, work int) api.Job {
	return api.Job{Work: work, Phase: api.Running, Inc: 1, Since: since}
}

func draining(until int) api.Job {
	return api.Job{Work: 1, Phase: api.Draining, Inc: 1, Until: until}
}

// state is that of a text (goal, prior and mode; behind a bar the nodes), with these jobs; those that aren't told how many nodes they may have may have any number.
func state(text string, jobs ...api.Job) api.State {
	head, tail, _ := strings.Cut(text, "|")
	l := strings.Fields(head)
	s := api.State{Goal: number(l[0]), Prior: number(l[1]), Mode: number(l[2]), Jobs: slices.Clone(jobs)}
	for i, word := range strings.Fields(tail) {
		n := node(word)
		s.Nodes = append(s.Nodes, n)
		if n.Job > 0 {
			s.Jobs[n.Job-1].Nodes |= 1 << i
		}
	}
	for i := range s.Jobs {
		if s.Jobs[i].Min == 0 {
			s.Jobs[i].Min, s.Jobs[i].Max = 1, len(s.Nodes)
		}
	}
	return s
}

// node is that of a word: u for up, d for down, c for cordoned, m for moving (so up and cordoned); its version; its job behind a colon.
func node(word string) api.Node {
	marks, job, has := strings.Cut(word, ":")
	n := api.Node{
		Up:      strings.ContainsAny(marks, "um"),
		Cordon:  strings.ContainsAny(marks, "cm"),
		Moving:  strings.Contains(marks, "m"),
		Version: number(strings.TrimLeft(marks, "udcm")),
	}
	if has {
		n.Job = number(job)
	}
	return n
}

func number(word string) int {
	n, e := strconv.Atoi(word)
	if e != nil {
		panic(word)
	}
	return n
}

// right is a state, which may be.
func right(t *testing.T, s api.State) api.State {
	t.Helper()
	if !book.Right(fleet(len(s.Nodes)), s) {
		t.Fatal("no state that may be:", s)
	}
	return s
}

// after is a state of six nodes behind one more op, told by its words.
func after(t *testing.T, s api.State, words string) api.State {
	t.Helper()
	o, ok := ops.Parse(words)
	x, e := book.Apply(fleet(6), s, o)
	if !ok || e != api.OK {
		t.Fatal(words, ok, e)
	}
	return x
}

// behind is the state behind ops from the first state of six nodes on.
func behind(t *testing.T, l ...string) api.State {
	t.Helper()
	s := book.New(fleet(6))
	for _, words := range l {
		s = after(t, s, words)
	}
	return s
}

// A slow reading of the chapter's words, time by time, job by job, node by node.

func isOne(s api.State, job int) bool { return job > 0 && job <= len(s.Jobs) }

func slowEnd(s api.State, job, now int) int {
	if !isOne(s, job) || s.Jobs[job-1].Phase == 0 || s.Jobs[job-1].Phase == 4 {
		return -1
	}
	j := s.Jobs[job-1]
	end := []int{1: now + j.Work, 2: j.Since + j.Work, 3: j.Until}[j.Phase]
	if end < now {
		return now
	}
	return end
}

func slowFree(n api.Node) bool { return n.Up && !n.Cordon && !n.Moving && n.Job == 0 }

// slowAt asks each node whether it is free, or of a job whose end isn't behind the time.
func slowAt(s api.State, now, time int) int {
	set := 0
	for i, n := range s.Nodes {
		if slowFree(n) || n.Job != 0 && slowEnd(s, n.Job, now) <= time {
			set += 1 << i
		}
	}
	return set
}

// slowTimes are now and all ends.
func slowTimes(s api.State, now int) []int {
	l := []int{now}
	for i := range s.Jobs {
		if end := slowEnd(s, i+1, now); end != -1 {
			l = append(l, end)
		}
	}
	return l
}

// slowReserve tries all times, and keeps the least one that does.
func slowReserve(s api.State, job, now int) (at, nodes int, ok bool) {
	if !isOne(s, job) || s.Jobs[job-1].Phase != 0 {
		return 0, 0, false
	}
	for _, x := range slowTimes(s, now) {
		n, gets := fit.Pick(s, s.Jobs[job-1], slowAt(s, now, x))
		if gets && (!ok || x < at) {
			at, nodes, ok = x, n, true
		}
	}
	return at, nodes, ok
}

// slowBeside are the free nodes that aren't those of the head's reservation.
func slowBeside(s api.State, now int) int {
	_, kept, has := slowReserve(s, rank.Line(s)[0], now)
	set := 0
	for i, n := range s.Nodes {
		if slowFree(n) && (!has || kept&(1<<i) == 0) {
			set += 1 << i
		}
	}
	return set
}

func slowFill(s api.State, job, now int) (int, bool) {
	place := slices.Index(rank.Line(s), job)
	if place == -1 || place == 0 {
		return 0, false
	}
	if nodes, ok := fit.Pick(s, s.Jobs[job-1], slowBeside(s, now)); ok {
		return nodes, true
	}
	nodes, gets := fit.Now(s, job)
	at, _, has := slowReserve(s, rank.Line(s)[0], now)
	if gets && has && now+s.Jobs[job-1].Work <= at {
		return nodes, true
	}
	return 0, false
}

func slowNext(s api.State, now int) (int, int, bool) {
	for place, job := range rank.Line(s) {
		nodes, ok := slowFill(s, job, now)
		if place == 0 {
			nodes, ok = fit.Now(s, job)
		}
		if ok {
			return job, nodes, true
		}
	}
	return 0, 0, false
}

// What is wanted.

func wantEnd(t *testing.T, s api.State, job, now, want int) {
	t.Helper()
	if end := ahead.End(s, job, now); end != want {
		t.Error("end of", job, "now", now, end, "want", want, "of", s)
	}
}

func wantAt(t *testing.T, s api.State, now, at, want int) {
	t.Helper()
	if set := ahead.At(s, now, at); set != want {
		t.Error("now", now, "at", at, set, "want", want, "of", s)
	}
}

func wantReserve(t *testing.T, s api.State, job, now, at, want int) {
	t.Helper()
	x, nodes, ok := ahead.Reserve(s, job, now)
	if want == none && (x != 0 || nodes != 0 || ok) || want != none && (x != at || nodes != want || !ok) {
		t.Error("reservation of", job, "now", now, x, nodes, ok, "want", at, want, "of", s)
	}
}

func wantFill(t *testing.T, s api.State, job, now, want int) {
	t.Helper()
	nodes, ok := ahead.Fill(s, job, now)
	if want == none && (nodes != 0 || ok) || want != none && (nodes != want || !ok) {
		t.Error("fill", job, "now", now, nodes, ok, "want", want, "of", s)
	}
}

func wantNext(t *testing.T, s api.State, now, job, want int) {
	t.Helper()
	k, nodes, ok := ahead.Next(s, now)
	if want == none && (k != 0 || nodes != 0 || ok) || want != none && (k != job || nodes != want || !ok) {
		t.Error("next now", now, k, nodes, ok, "want", job, want, "of", s)
	}
}

// orNone is nodes, or none.
func orNone(nodes int, ok bool) int {
	if !ok {
		return none
	}
	return nodes
}

// wantSlow holds all calls against the slow reading, of a state that may be.
func wantSlow(t *testing.T, s api.State, now int) {
	t.Helper()
	right(t, s)
	for k := -1; k <= len(s.Jobs)+1; k++ {
		wantEnd(t, s, k, now, slowEnd(s, k, now))
		at, nodes, ok := slowReserve(s, k, now)
		wantReserve(t, s, k, now, at, orNone(nodes, ok))
		nodes, ok = slowFill(s, k, now)
		wantFill(t, s, k, now, orNone(nodes, ok))
	}
	for _, at := range []int{math.MinInt, -1, 0, math.MaxInt} {
		wantAt(t, s, now, at, slowAt(s, now, at))
	}
	for _, x := range slowTimes(s, now) {
		for at := x - 1; at <= x+1; at++ {
			wantAt(t, s, now, at, slowAt(s, now, at))
		}
	}
	job, nodes, ok := slowNext(s, now)
	wantNext(t, s, now, job, orNone(nodes, ok))
}

// The chapter's example.

// P16.1: one node, of a job that runs from 3 on for 5.
func TestExample(t *testing.T) {
	s := right(t, state("1 1 0 | u1:1", running(3, 5), queued(0, 1, 1, 1, 0)))
	wantEnd(t, s, 1, 4, 8)
	wantReserve(t, s, 2, 4, 8, 1)
	for now, want := range []int{8, 8, 8, 8, 8, 8, 8, 8, 8, 9, 10} {
		wantReserve(t, s, 2, now, want, 1)
		wantNext(t, s, now, 0, none)
	}
}

// P16.1: End.

// P16.1: of each phase; ends that would be behind now are now, of Running and Draining.
func TestEnd(t *testing.T) {
	for _, x := range []struct {
		job       api.Job
		now, want int
	}{
		{held(1), 0, 1}, {held(1), 1, 2}, {held(5), 7, 12}, {held(1000), 0, 1000}, {held(1), last, last + 1}, {held(1000), last, last + 1000},
		{running(0, 1), 0, 1}, {running(0, 1), 1, 1}, {running(0, 1), 2, 2}, {running(3, 5), 0, 8}, {running(3, 5), 2, 8}, {running(3, 5), 3, 8},
		{running(3, 5), 4, 8}, {running(3, 5), 7, 8}, {running(3, 5), 8, 8}, {running(3, 5), 9, 9}, {running(3, 5), 500, 500}, {running(3, 5), last, last},
		{running(last-1000, 1000), last, last}, {running(last-999, 1000), last, last + 1}, {running(last, 1000), last, last + 1000}, {running(last, 1000), 0, last + 1000}, {running(last, 1), 5, last + 1},
		{draining(0), 0, 0}, {draining(0), 1, 1}, {draining(0), last, last}, {draining(9), 0, 9}, {draining(9), 8, 9}, {draining(9), 9, 9}, {draining(9), 10, 10},
		{draining(9), last, last}, {draining(last), 0, last}, {draining(last), last - 1, last}, {draining(last), last, last},
	} {
		s := right(t, state("1 1 0 | u1 u1:1", x.job))
		wantEnd(t, s, 1, x.now, x.want)
	}
}

// P16.1: of each phase its own numbers count alone, whatever the others are.
func TestEndNumbers(t *testing.T) {
	numbers := []int{0, 1, 2, 7, 8, 9, 500, last - 1, last}
	for phase := api.Queued; phase <= api.Ended; phase++ {
		for _, since := range numbers {
			for _, until := range numbers {
				for _, now := range numbers {
					s := state("1 1 0 | u1", api.Job{Phase: phase, Since: since, Until: until, Inc: 3, Epoch: 2})
					if phase != api.Queued && phase != api.Ended {
						s.Jobs[0].Nodes, s.Nodes[0].Job = 1, 1
					}
					for _, work := range []int{1, 2, 7, 8, 1000} {
						s.Jobs[0].Work = work
						wantEnd(t, right(t, s), 1, now, slowEnd(s, 1, now))
					}
				}
			}
		}
	}
}

// mixed is a state of jobs of each phase: 2 is Held, 3 Running, 5 Draining, 7 Ended, the others Queued; node 5 is down.
func mixed(t *testing.T) api.State {
	return behind(t,
		"submit 0 1 1 1 5 0", "submit 0 1 1 1 5 0", "submit 1 1 1 1 5 0", "submit 0 1 4 4 5 0", "submit 1 1 1 1 5 0",
		"submit 0 9 5 6 5 0", "submit 0 1 1 1 5 0", "submit 0 1 6 6 5 0", "submit 2 1 1 6 5 2", "submit 2 0 1 2 2 1",
		"down 5", "hold 2 1", "hold 3 2", "start 3 4", "hold 5 4", "start 5 4", "drain 5 9", "cancel 7")
}

// P16.1, P16.2: each function of a job in each phase; job 6 is the head, and waits until 11.
func TestPhases(t *testing.T) {
	s := mixed(t)
	for i, want := range []int{-1, 11, 9, -1, 9, -1, -1, -1, -1, -1} {
		wantEnd(t, s, i+1, 6, want)
	}
	for _, x := range [][2]int{{5, 24}, {6, 24}, {8, 24}, {9, 30}, {10, 30}, {11, 31}, {12, 31}} {
		wantAt(t, s, 6, x[0], x[1])
	}
	reserved := [][2]int{{6, 8}, {0, none}, {0, none}, {9, 30}, {0, none}, {11, 31}, {0, none}, {0, none}, {0, none}, {6, 24}}
	for i, want := range reserved {
		wantReserve(t, s, i+1, 6, want[0], want[1])
	}
	for i, want := range []int{8, none, none, none, none, none, none, none, none, 24} {
		wantFill(t, s, i+1, 6, want)
	}
	wantNext(t, s, 6, 1, 8)
	wantSlow(t, s, 6)
}

// P16.1, P16.2: nothing of what is none.
func TestNoJob(t *testing.T) {
	for _, s := range []api.State{{}, book.New(fleet(1)), book.New(fleet(6)), mixed(t), behind(t, many("submit 0 1 1 1 1 0")...)} {
		for _, now := range []int{0, 6, last} {
			for _, k := range append(slices.Clone(far), 0, len(s.Jobs)+1, len(s.Jobs)+2) {
				wantEnd(t, s, k, now, -1)
				wantReserve(t, s, k, now, 0, none)
				wantFill(t, s, k, now, none)
			}
		}
	}
}

// many is an op's words as often as there may be jobs.
func many(words string) []string { return slices.Repeat([]string{words}, api.MaxJobs) }

// P16.1: At.

// P16.1: the free nodes at any time; a job's from its end on, which is now, if it would be behind that.
func TestAt(t *testing.T) {
	s := right(t, state("1 1 0 | u1 u1:1 u1:2 u1:3 uc1 d1", running(3, 5), held(4), draining(20)))
	for _, x := range []struct {
		now  int
		want [][2]int
	}{
		{0, [][2]int{{-1, 1}, {0, 1}, {3, 1}, {4, 5}, {7, 5}, {8, 7}, {9, 7}, {19, 7}, {20, 15}, {21, 15}}},
		{4, [][2]int{{-1, 1}, {0, 1}, {3, 1}, {4, 1}, {5, 1}, {7, 1}, {8, 7}, {19, 7}, {20, 15}}},
		{8, [][2]int{{7, 1}, {8, 3}, {11, 3}, {12, 7}, {19, 7}, {20, 15}}},
		{9, [][2]int{{7, 1}, {8, 1}, {9, 3}, {12, 3}, {13, 7}, {20, 15}}},
		{20, [][2]int{{8, 1}, {19, 1}, {20, 11}, {23, 11}, {24, 15}}},
		{21, [][2]int{{20, 1}, {21, 11}, {24, 11}, {25, 15}}},
		{last, [][2]int{{0, 1}, {21, 1}, {last - 1, 1}, {last, 11}, {last + 3, 11}, {last + 4, 15}, {last + 5, 15}}},
	} {
		for _, y := range x.want {
			wantAt(t, s, x.now, y[0], y[1])
		}
		for _, at := range far {
			if at < 0 {
				wantAt(t, s, x.now, at, 1)
			}
		}
		wantAt(t, s, x.now, 2*last, 15)
		wantAt(t, s, x.now, math.MaxInt-1, 15)
		wantAt(t, s, x.now, math.MaxInt, 15)
	}
}

// P16.1: all nodes of a job come back, cordoned ones too; of none else.
func TestAtNodes(t *testing.T) {
	for _, x := range []struct {
		text               string
		ahead, first, both int
	}{
		{"1 1 0 | u1:1 u1:1 u1:1 u1:2 u1:2 u1:2", 0, 7, 63},
		{"1 1 0 | u1:2 u1:1 u1:2 u1:1 u1:2 u1:1", 0, 42, 63},
		{"1 1 0 | uc1:1 u1:1 uc1 m1 d1 uc1:2", 0, 3, 35},
		{"1 1 0 | dc1 u1:1 u2 uc2:2 u3 u4", 52, 54, 62},
		{"1 1 0 | uc1:1 uc1:2", 0, 1, 3},
		{"3 2 2 | d3 u1:1 u2:2", 0, 2, 6},
	} {
		s := right(t, state(x.text, running(2, 6), held(40)))
		for at, want := range map[int]int{-3: x.ahead, 4: x.ahead, 7: x.ahead, 8: x.first, 44: x.first, 45: x.both, 1000: x.both} {
			wantAt(t, s, 5, at, want)
		}
	}
}

// P16.1: several ends at one time, and a state without jobs, or with such as have no nodes.
func TestAtTogether(t *testing.T) {
	s := right(t, state("1 1 0 | u1:1 u1:2 u1:3 u1:4 u1:5 u1", running(2, 8), held(5), draining(10), running(9, 1), running(0, 11)))
	for at, want := range map[int]int{4: 32, 9: 32, 10: 47, 11: 63} {
		wantAt(t, s, 5, at, want)
	}
	for now, want := range map[int]int{10: 32 + 13, 11: 32 + 29, last: 32 + 29} {
		wantAt(t, s, now, now-1, 32)
		wantAt(t, s, now, now, want)
		wantAt(t, s, now, now+5, 63)
	}
	ended := queued(0, 1, 1, 1, 0)
	ended.Phase, ended.Since, ended.Until = api.Ended, 3, 4
	for _, l := range [][]api.Job{nil, {}, {queued(0, 1, 1, 1, 0)}, {ended}} {
		s := right(t, state("1 1 0 | u1 d1 uc1 m1 u2 u1", l...))
		for _, at := range append([]int{0, 4, 5, 6}, far...) {
			wantAt(t, s, 5, at, 49)
		}
	}
	wantAt(t, api.State{}, 5, 5, 0)
}

// P16.1: Reserve.

// reserves are jobs of a state, and when they get nodes, and which.
type reserves struct {
	text string
	jobs []api.Job
	now  int
	rows [][5]int // min, max, pin, the time, the nodes
}

func wantReserves(t *testing.T, l []reserves) {
	t.Helper()
	for _, x := range l {
		for _, y := range x.rows {
			s := state(x.text, append(slices.Clone(x.jobs), queued(0, y[0], y[1], 1, y[2]))...)
			wantReserve(t, right(t, s), len(s.Jobs), x.now, y[3], y[4])
		}
	}
}

// P16.1: a reservation now, at the first end, at one between, at the last one, and none at all.
func TestReserve(t *testing.T) {
	three := []api.Job{running(3, 9), draining(20), held(40)} // till 12, 20, and 40 from now on
	wantReserves(t, []reserves{
		{"1 1 0 | u1 u1 u1:1 u1:2 u1:3 u1:3", three, 5, [][5]int{
			{1, 1, 0, 5, 1}, {1, 2, 0, 5, 3}, {1, 6, 0, 5, 3}, {2, 6, 1, 5, 3}, {3, 3, 0, 12, 7}, {3, 6, 0, 12, 7}, {4, 4, 0, 20, 15}, {4, 6, 1, 20, 15},
			{5, 5, 0, 45, 31}, {5, 6, 0, 45, 63}, {6, 6, 0, 45, 63}, {1, 6, 2, 0, none}, {6, 6, 9, 0, none}}},
		{"1 1 0 | u1:1 u1 d1 u1:2 u1:3 m1", three, 5, [][5]int{
			{1, 6, 0, 5, 2}, {2, 6, 0, 12, 3}, {3, 3, 0, 20, 11}, {4, 4, 0, 45, 27}, {5, 5, 0, 0, none}, {6, 6, 0, 0, none}}},
		{"1 1 0 | u1:3 u1:2 u1:1", three, 5, [][5]int{{1, 1, 0, 12, 4}, {1, 3, 0, 12, 4}, {2, 2, 0, 20, 6}, {2, 3, 0, 20, 6}, {3, 3, 0, 45, 7}}},
		{"1 1 0 | u1:3 u1:2 u1:1", three, 0, [][5]int{{1, 1, 0, 12, 4}, {2, 2, 0, 20, 6}, {3, 3, 0, 40, 7}}},
		{"1 1 0 | u1:3 u1:2 u1:1", three, 12, [][5]int{{1, 1, 0, 12, 4}, {2, 2, 0, 20, 6}, {3, 3, 0, 52, 7}}},
		{"1 1 0 | u1:3 u1:2 u1:1", three, 13, [][5]int{{1, 1, 0, 13, 4}, {2, 2, 0, 20, 6}, {3, 3, 0, 53, 7}}},
		{"1 1 0 | u1:3 u1:2 u1:1", three, 99, [][5]int{{1, 1, 0, 99, 2}, {2, 2, 0, 99, 6}, {3, 3, 0, 139, 7}}},
		{"1 1 0 | u1:3 u1:2 u1:1", three, last, [][5]int{{1, 1, 0, last, 2}, {2, 2, 0, last, 6}, {3, 3, 0, last + 40, 7}}},
	})
}

// P16.1: nodes that come back count only if they suit: the pin, one version, none that is cordoned, of all that are there then.
func TestReserveSuits(t *testing.T) {
	two := []api.Job{running(3, 9), draining(20)}
	wantReserves(t, []reserves{
		{"1 1 0 | u1 u2 u2:1 u1:2", two, 5, [][5]int{
			{1, 1, 0, 5, 1}, {1, 4, 0, 5, 1}, {2, 2, 0, 12, 6}, {2, 2, 1, 20, 9}, {2, 4, 2, 12, 6}, {1, 4, 2, 5, 2}, {3, 4, 0, 0, none}, {1, 1, 3, 0, none}}},
		{"2 1 0 | u1 u2 u2:1 u1:2", two, 5, [][5]int{{1, 1, 0, 5, 2}, {2, 2, 0, 12, 6}, {2, 2, 1, 20, 9}}},
		{"1 1 0 | u1 u2 u2:1 u1:2", two, 30, [][5]int{{1, 1, 0, 30, 1}, {1, 4, 0, 30, 9}, {2, 2, 0, 30, 9}, {2, 2, 2, 30, 6}}},
		{"1 2 2 | u1 u2 u2:1 u1:2", two, 30, [][5]int{{1, 1, 0, 30, 2}, {1, 4, 0, 30, 6}, {2, 2, 1, 30, 9}}},
		{"1 1 0 | u1 uc1:1 u1:2", two, 5, [][5]int{{1, 3, 0, 5, 1}, {2, 2, 0, 20, 5}, {2, 3, 0, 20, 5}, {3, 3, 0, 0, none}}},
		{"1 1 0 | uc1 uc1:1 u1:2", two, 5, [][5]int{{1, 1, 0, 20, 4}, {2, 2, 0, 0, none}}},
		{"1 1 0 | d1 uc1:1 uc1:2", two, 5, [][5]int{{1, 1, 0, 0, none}}},
		{"1 1 0 | u1:1 u1:1 u1:1 u1:2", two, 5, [][5]int{{1, 1, 0, 12, 1}, {2, 2, 0, 12, 3}, {1, 4, 0, 12, 7}, {4, 4, 0, 20, 15}}},
		{"1 1 0 | u1 u1:1 u2:2 u2:2", two, 19, [][5]int{{2, 4, 0, 19, 3}, {2, 4, 2, 20, 12}}},
		{"1 1 0 | u1 u1:1 u2:2 u2:2", two, 11, [][5]int{{2, 4, 0, 12, 3}, {1, 4, 2, 20, 12}}},
		{"2 1 0 | d1 u1:1 u2:2 u2:2", two, 21, [][5]int{{1, 4, 0, 21, 12}, {1, 4, 1, 21, 2}}},
	})
}

// P16.1: several ends at one time bring their nodes together; jobs that end past MaxTime bring theirs, too.
func TestReserveTogether(t *testing.T) {
	wantReserves(t, []reserves{
		{"1 1 0 | u1:1 u1:2 u1:3 u1:4", []api.Job{running(2, 8), held(5), draining(10), running(9, 2)}, 5, [][5]int{
			{1, 1, 0, 10, 1}, {1, 4, 0, 10, 7}, {2, 2, 0, 10, 3}, {3, 3, 0, 10, 7}, {4, 4, 0, 11, 15}}},
		{"1 1 0 | u1:1 u1:2 u1:3 u1:4", []api.Job{running(2, 8), held(5), draining(10), running(9, 2)}, 11, [][5]int{
			{1, 4, 0, 11, 13}, {3, 4, 0, 11, 13}, {4, 4, 0, 16, 15}}},
		{"1 1 0 | u1:1 u1:2 u1:3", []api.Job{running(last, 7), held(1000), draining(last)}, last, [][5]int{
			{1, 3, 0, last, 4}, {2, 3, 0, last + 7, 5}, {3, 3, 0, last + 1000, 7}}},
		{"1 1 0 | u1:1 u1:2 u1:3", []api.Job{running(last, 1000), held(1), draining(last)}, 0, [][5]int{
			{1, 3, 0, 1, 2}, {2, 3, 0, last, 6}, {3, 3, 0, last + 1000, 7}}},
		{"1 1 0 | u1:1 u1:2", []api.Job{draining(0), draining(0)}, 0, [][5]int{{1, 1, 0, 0, 1}, {1, 2, 0, 0, 3}, {2, 2, 2, 0, none}}},
		{"1 1 0 | u1", nil, 0, [][5]int{{1, 1, 0, 0, 1}, {1, 1, 1, 0, 1}, {1, 1, 2, 0, none}}},
		{"1 1 0 | u1 u1", nil, last, [][5]int{{1, 1, 0, last, 1}, {2, 2, 0, last, 3}}},
		{"1 1 0 | d1 m1", nil, 5, [][5]int{{1, 2, 0, 0, none}}},
	})
}

// P16.1: whoever else waits, and whichever place it has, counts for no reservation; nor does its own queue, work or Inc.
func TestReserveAlone(t *testing.T) {
	jobs := []api.Job{running(3, 9), queued(0, 2, 2, 1000, 0), queued(9, 1, 3, 1, 0), queued(9, 2, 3, 1, 0), queued(5, 3, 3, 7, 0), queued(3, 4, 4, 1, 0)}
	s := right(t, state("1 1 0 | u1 u1:1 u1:1 d1", jobs...))
	for k, want := range map[int][2]int{2: {12, 3}, 3: {4, 1}, 4: {12, 7}, 5: {12, 7}, 6: {0, none}} {
		wantReserve(t, s, k, 4, want[0], want[1])
		s.Jobs[k-1].Queue, s.Jobs[k-1].Inc, s.Jobs[k-1].Since, s.Jobs[k-1].Until = 2, last, 77, 78
		wantReserve(t, right(t, s), k, 4, want[0], want[1])
	}
}

// P16.2: Fill and Next.

// fills are the nodes by which each job of a state fills in, and who starts.
type fills struct {
	text  string
	jobs  []api.Job
	now   int
	each  []int
	job   int
	nodes int
}

func wantFills(t *testing.T, l []fills) {
	t.Helper()
	for i, x := range l {
		s := right(t, state(x.text, x.jobs...))
		for k, want := range x.each {
			wantFill(t, s, k+1, x.now, want)
		}
		wantNext(t, s, x.now, x.job, x.nodes)
		if wantSlow(t, s, x.now); t.Failed() {
			t.Fatal("row", i)
		}
	}
}

// P16.2: the head that starts, by whichever nodes are free now.
func TestHeadStarts(t *testing.T) {
	wantFills(t, []fills{
		{"1 1 0 | u1", []api.Job{queued(0, 1, 1, 1, 0)}, 0, []int{none}, 1, 1},
		{"1 1 0 | u1", []api.Job{queued(0, 1, 1, 1000, 0)}, last, []int{none}, 1, 1},
		{"1 1 0 | u1 u1 u1", []api.Job{queued(0, 1, 2, 1, 0), queued(9, 1, 2, 1, 0)}, 4, []int{4, none}, 2, 3},
		{"1 1 0 | u1 u1 u1", []api.Job{queued(4, 1, 2, 1, 0), queued(4, 1, 2, 1, 0)}, 4, []int{none, 4}, 1, 3},
		{"1 1 0 | u1 u1 u1", []api.Job{queued(4, 2, 2, 1, 0), queued(4, 2, 2, 1, 0)}, 4, []int{none, none}, 1, 3},
		{"2 1 0 | u1 u2 u1:1 u2:2", []api.Job{running(0, 9), draining(20), queued(1, 1, 4, 9, 0), queued(0, 1, 4, 9, 0)}, 4, []int{none, none, none, 1}, 3, 2},
		{"1 1 0 | u1 u1 u1 u1 u1 u1", []api.Job{queued(1, 6, 6, 9, 0), queued(0, 1, 1, 1, 0)}, 4, []int{none, none}, 1, 63},
	})
}

// P16.2: the head that waits, with a reservation: who is beside its nodes, or back by its time, fills in.
func TestHeadWaits(t *testing.T) {
	run, drain := running(3, 9), draining(20) // till 12 and 20
	head := queued(9, 3, 3, 50, 0)
	wantFills(t, []fills{
		// it waits alone
		{"1 1 0 | u1 u1 u1:1 u1:2", []api.Job{run, drain, head}, 5, []int{none, none, none}, 0, none},
		// on its nodes, and back just in time; one too late; just in time by the last tick
		{"1 1 0 | u1 u1 u1:1 u1:2", []api.Job{run, drain, head, queued(0, 1, 1, 7, 0)}, 5, []int{none, none, none, 1}, 4, 1},
		{"1 1 0 | u1 u1 u1:1 u1:2", []api.Job{run, drain, head, queued(0, 1, 1, 8, 0)}, 5, []int{none, none, none, none}, 0, none},
		{"1 1 0 | u1 u1 u1:1 u1:2", []api.Job{run, drain, head, queued(0, 1, 2, 8, 0)}, 4, []int{none, none, none, 3}, 4, 3},
		{"1 1 0 | u1 u1 u1:1 u1:2", []api.Job{run, drain, head, queued(0, 1, 2, 1, 0)}, 11, []int{none, none, none, 3}, 4, 3},
		{"1 1 0 | u1 u1 u1:1 u1:2", []api.Job{run, drain, head, queued(0, 1, 2, 1, 0)}, 12, []int{none, none, none, none}, 0, none},
		{"1 1 0 | u1 u1 u1:1 u1:2", []api.Job{run, drain, head, queued(0, 1, 2, 1, 0)}, last, []int{none, none, none, none}, 0, none},
		// beside its nodes, for as long as it may be
		{"1 1 0 | u1 u1 u2 u1:1", []api.Job{run, head, queued(0, 1, 1, 1000, 2)}, 5, []int{none, none, 4}, 3, 4},
		{"1 1 0 | u1 u1 u2 u1:1", []api.Job{run, head, queued(0, 1, 3, 1000, 0)}, 5, []int{none, none, 4}, 3, 4},
		{"1 1 0 | u1 u1 u2 u1:1", []api.Job{run, head, queued(0, 1, 3, 1000, 1)}, 5, []int{none, none, none}, 0, none},
		{"1 1 0 | u1 u1 u2 u1:1", []api.Job{run, head, queued(0, 1, 3, 7, 1)}, 5, []int{none, none, 3}, 3, 3},
		// beside its nodes, though on them it would get more, and be back in time; on them, if there aren't enough beside
		{"1 1 0 | u1 u1 u2 u1:1", []api.Job{run, head, queued(0, 1, 3, 1, 0)}, 5, []int{none, none, 4}, 3, 4},
		{"1 1 0 | u1 u1 u2 u1:1", []api.Job{run, head, queued(0, 2, 3, 1, 0)}, 5, []int{none, none, 3}, 3, 3},
		{"1 1 0 | u1 u1 u2 u1:1", []api.Job{run, head, queued(0, 2, 3, 8, 0)}, 5, []int{none, none, none}, 0, none},
		// beside its nodes there is one of its version, too; on both sides there are enough
		{"1 1 0 | u2:1 u2 u1 u1 u2:1", []api.Job{run, queued(9, 2, 2, 5, 2), queued(0, 1, 3, 90, 0)}, 5, []int{none, none, 12}, 3, 12},
		{"1 1 0 | u2:1 u2 u2:1 u2", []api.Job{run, queued(9, 3, 3, 5, 2), queued(0, 1, 3, 90, 0), queued(0, 2, 3, 7, 0), queued(0, 2, 3, 8, 0)}, 5, []int{none, none, 8, 10, none}, 3, 8},
	})
}

// P16.2: the head whose nodes come back now, but aren't free yet: its reservation is now, and nobody is back by then.
func TestHeadOverdue(t *testing.T) {
	wantFills(t, []fills{
		{"1 1 0 | u1 u1:1", []api.Job{running(3, 9), queued(9, 2, 2, 5, 0), queued(0, 1, 1, 1, 0)}, 30, []int{none, none, none}, 0, none},
		{"1 1 0 | u1 u1:1", []api.Job{draining(12), queued(9, 2, 2, 5, 0), queued(0, 1, 1, 1, 0)}, 12, []int{none, none, none}, 0, none},
		{"1 1 0 | u1 u1:1", []api.Job{draining(12), queued(9, 2, 2, 5, 0), queued(0, 1, 1, 1, 0)}, 11, []int{none, none, 1}, 3, 1},
		{"1 1 0 | u1 u1:1 u1", []api.Job{running(3, 9), queued(9, 2, 2, 5, 0), queued(0, 1, 1, 1, 0)}, 30, []int{none, none, 4}, 2, 5},
		{"1 1 0 | u1 u1:1 u2", []api.Job{running(3, 9), queued(9, 2, 2, 5, 0), queued(0, 1, 1, 1, 0)}, 30, []int{none, none, 4}, 3, 4},
		{"1 1 0 | u1:1 u1", []api.Job{running(0, 1), queued(9, 1, 1, 5, 0), queued(0, 1, 1, 1, 0)}, last, []int{none, none, 2}, 2, 2},
		{"2 1 0 | u1 u2:1", []api.Job{draining(0), queued(9, 1, 1, 5, 0), queued(0, 1, 1, 1, 0)}, 0, []int{none, none, 1}, 2, 1},
	})
}

// P16.2: the head without a reservation: all free ones are the others', however long they work.
func TestHeadWithout(t *testing.T) {
	wantFills(t, []fills{
		{"1 1 0 | u1", []api.Job{queued(9, 1, 1, 5, 2)}, 0, []int{none}, 0, none},
		{"1 1 0 | u1", []api.Job{queued(9, 1, 1, 5, 2), queued(0, 1, 1, 1000, 0)}, 0, []int{none, 1}, 2, 1},
		{"1 1 0 | u1", []api.Job{queued(9, 1, 1, 5, 2), queued(0, 1, 1, 1000, 0)}, last, []int{none, 1}, 2, 1},
		{"1 1 0 | u1 u1 u1:1 d1", []api.Job{running(3, 9), queued(9, 4, 4, 5, 0), queued(0, 1, 2, 1000, 0), queued(0, 2, 4, 1, 0), queued(0, 3, 3, 1, 0)}, 5, []int{none, none, 3, 3, none}, 3, 3},
		{"1 1 0 | u1 u1 u1:1 uc1:1", []api.Job{running(3, 9), queued(9, 4, 4, 5, 0), queued(0, 1, 2, 1000, 0)}, 5, []int{none, none, 3}, 3, 3},
		{"1 1 0 | d1 d1", []api.Job{queued(9, 1, 1, 5, 0), queued(0, 1, 1, 1, 0)}, 5, []int{none, none}, 0, none},
		{"1 1 0 | d1 m1 uc1 dc1", []api.Job{queued(9, 1, 1, 5, 0), queued(0, 1, 1, 1, 0)}, 5, []int{none, none}, 0, none},
	})
}

// P16.2: of several that may fill in the first one in the line starts; who may not is passed over.
func TestFirstThatFills(t *testing.T) {
	run, head := running(3, 9), queued(9, 3, 3, 50, 0)
	text := "1 1 0 | u1 u1 u1:1"
	wantFills(t, []fills{
		{text, []api.Job{run, head, queued(2, 1, 1, 7, 0), queued(2, 1, 2, 7, 0)}, 5, []int{none, none, 1, 3}, 3, 1},
		{text, []api.Job{run, head, queued(2, 1, 1, 7, 0), queued(3, 1, 2, 7, 0)}, 5, []int{none, none, 1, 3}, 4, 3},
		{text, []api.Job{run, head, queued(2, 1, 1, 8, 0), queued(3, 1, 2, 9, 0), queued(1, 1, 1, 6, 0), queued(0, 1, 1, 1, 0)}, 5, []int{none, none, none, none, 1, 1}, 5, 1},
		{"1 1 0 | u1 u1 u1:5", []api.Job{queued(0, 2, 2, 7, 1), queued(0, 1, 1, 8, 0), queued(8, 1, 1, 7, 2), head, run}, 5, []int{3, none, none, none, none}, 1, 3},
		{"1 1 0 | u1 u1 u1:5", []api.Job{queued(0, 2, 2, 8, 1), queued(0, 1, 1, 8, 0), queued(8, 1, 1, 7, 2), head, run}, 5, []int{none, none, none, none, none}, 0, none},
		{"1 1 0 | u1 u2 u1:5", []api.Job{queued(0, 1, 2, 90, 1), queued(0, 1, 1, 90, 2), queued(0, 1, 1, 90, 0), queued(9, 2, 2, 5, 1), run}, 5, []int{none, 2, 2, none, none}, 2, 2},
	})
}

// P16.2: no others in the line, no line, and no jobs: nobody.
func TestNobody(t *testing.T) {
	for _, s := range []api.State{{}, {Goal: 1}, book.New(fleet(1)), book.New(fleet(6)),
		state("1 1 0 | u1:1 u1:2 u1:3 u1", running(3, 9), draining(20), held(5)),
		state("1 1 0 | u1", api.Job{Phase: api.Ended, Work: 1}),
	} {
		for _, now := range []int{0, 5, last} {
			wantNext(t, s, now, 0, none)
			for k := range 6 {
				wantFill(t, s, k, now, none)
				wantReserve(t, s, k, now, 0, none)
			}
		}
	}
}

// P16.1, P16.2: a line of as many as there may be: but for one, none of them fills in; or all do.
func TestMany(t *testing.T) {
	for place := 1; place < api.MaxJobs; place++ {
		for _, now := range []int{0, 6, last} {
			s := behind(t, many("submit 0 1 1 1 2 3")...)
			s.Jobs[0].Min, s.Jobs[0].Max = 6, 6
			s.Jobs[place].Pin = 0
			wantNext(t, right(t, s), now, place+1, 1)
			for k := range api.MaxJobs {
				want := none
				if k == place {
					want = 1
				}
				wantFill(t, s, k+1, now, want)
			}
			s.Jobs[place].Pin = 2
			wantNext(t, right(t, s), now, 0, none)
		}
	}
	s := behind(t, many("submit 0 1 1 1 2 0")...)
	wantNext(t, s, 9, 1, 1)
	for k := 2; k <= api.MaxJobs; k++ {
		wantFill(t, s, k, 9, 2)
		wantReserve(t, s, k, 9, 9, 1)
	}
	s.Jobs[23].Prio = 2
	wantNext(t, right(t, s), 9, 24, 1)
	wantFill(t, s, 24, 9, none)
	wantFill(t, s, 1, 9, 2)
	wantSlow(t, s, 9)
}

// By the slow reading.

// each hands on all rows of the numbers l and one more below each of most, all in the same memory.
func each(l []int, most ...int) func(yield func([]int) bool) {
	return func(yield func([]int) bool) {
		if len(most) == 0 {
			yield(l)
			return
		}
		for n := range most[0] {
			for x := range each(append(l, n), most[1:]...) {
				if !yield(x) {
					return
				}
			}
		}
	}
}

// asks are queued jobs of each min and max up to most, of each pin from 0 to pins, of these works.
func asks(most, pins int, works ...int) []api.Job {
	var l []api.Job
	for pin := range pins + 1 {
		for least := 1; least <= most; least++ {
			for n := least; n <= most; n++ {
				for _, work := range works {
					l = append(l, queued(0, least, n, work, pin))
				}
			}
		}
	}
	return l
}

// ofThree is a state of three nodes of these words, and of jobs that run till 6, drain till 9, and are held for 3, as far as they have nodes; these wait.
func ofThree(text string, waits ...api.Job) api.State {
	s := state(text, append([]api.Job{running(2, 4), draining(9), held(3)}, waits...)...)
	for i := range 3 {
		if s.Jobs[i].Nodes == 0 {
			s.Jobs[i].Phase = api.Ended
		}
	}
	return s
}

var marks = []string{"u1", "u2", "d1", "uc1", "m1", "u1:1", "u2:1", "uc1:1", "u1:2", "u2:2", "u1:3", "uc2:3"}

// threes hands on states of three nodes of each sort, each with some lines of three.
func threes(lines int, do func(s api.State)) {
	heads := []string{"1 1 0|", "2 1 0|", "3 1 1|", "1 2 2|"}
	jobs := asks(3, 2, 1, 3, 4, 20)
	r := rand.New(rand.NewPCG(3, 16))
	for l := range each(nil, len(marks), len(marks), len(marks)) {
		for range lines {
			waits := make([]api.Job, 3)
			for i := range waits {
				waits[i] = jobs[r.IntN(len(jobs))]
				waits[i].Prio = r.IntN(3)
			}
			s := ofThree(heads[r.IntN(4)]+marks[l[0]]+" "+marks[l[1]]+" "+marks[l[2]], waits...)
			if book.Right(fleet(3), s) { // else a job has two versions
				do(s)
			}
		}
	}
}

// P16.1, P16.2: every three nodes of these sorts, at times ahead of the ends, at them, and behind.
func TestEveryThree(t *testing.T) {
	threes(6, func(s api.State) {
		for _, now := range []int{0, 3, 5, 6, 7, 9, 10, last} {
			if wantSlow(t, s, now); t.Failed() {
				t.FailNow()
			}
		}
	})
}

// P16.1: tick by tick: ahead of its reservation, a job gets no nodes; without one, it never does.
func TestEachTick(t *testing.T) {
	met := map[bool]int{}
	threes(1, func(s api.State) {
		for _, now := range []int{0, 5, 8} {
			for k := 4; k <= 6; k++ {
				at, nodes, ok := ahead.Reserve(s, k, now)
				for tick := now; tick < 20 && (!ok || tick <= at); tick++ {
					n, gets := fit.Pick(s, s.Jobs[k-1], slowAt(s, now, tick))
					if gets != (ok && tick == at) || gets && n != nodes {
						t.Fatal("job", k, "now", now, "reserved", at, nodes, ok, "but at", tick, n, gets, s)
					}
				}
				met[ok]++
			}
		}
	})
	if met[true] < 500 || met[false] < 500 {
		t.Error("too few jobs:", met)
	}
}

// moment is a state at a time.
type moment struct {
	c   api.Conf
	s   api.State
	now int
}

// runs hands on the states of runs of ops, each at the time that goes on meanwhile; some runs end at MaxTime.
func runs(each func(m moment)) {
	r := rand.New(rand.NewPCG(1, 16))
	for run := range 48 {
		m := moment{c: fleet([]int{6, 6, 3, 1 + r.IntN(6)}[run%4])}
		m.s = book.New(m.c)
		if run%6 == 5 {
			m.now = last - 60
		}
		each(m)
		for range 300 {
			if x, e := book.Apply(m.c, m.s, someOp(r, m)); e == api.OK {
				m.s = x
				each(m)
			}
			if r.IntN(3) == 0 {
				m.now = min(last, m.now+1)
			}
		}
	}
}

// someOp is one that can mostly be done at some time; jobs end, and nodes fail, seldom.
func someOp(r *rand.Rand, m moment) api.Op {
	k, node, seldom := 1+r.IntN(len(m.s.Jobs)+1), r.IntN(m.c.Nodes), r.IntN(4) == 0
	switch r.IntN(16) {
	case 0, 1:
		least := 1 + r.IntN(m.c.Nodes)
		return api.Op{Kind: api.Submit, A: r.IntN(3), B: r.IntN(10), C: least, D: least + r.IntN(m.c.Nodes-least+1), E: 1 + r.IntN(15), F: max(0, r.IntN(6)-3)}
	case 2, 3, 4:
		return api.Op{Kind: api.Start, A: k, B: m.now}
	case 5:
		return api.Op{Kind: api.Drain, A: k, B: min(last, m.now+r.IntN(10))}
	case 6:
		return api.Op{Kind: api.Evict - r.IntN(2)*(api.Evict-api.Unhold), A: k}
	case 7, 8:
		return api.Op{Kind: api.Up, A: node, B: 1 + r.IntN(2)}
	case 9:
		if seldom {
			return api.Op{Kind: api.Down, A: node}
		}
	case 10:
		if seldom {
			return api.Op{Kind: api.Done - r.IntN(2)*(api.Done-api.Cancel), A: k}
		}
	case 11:
		if seldom {
			return api.Op{Kind: api.Shrink, A: k, B: node}
		}
	case 12:
		return []api.Op{{Kind: api.Cordon, A: node}, {Kind: api.Uncordon, A: node}, {Kind: api.Uncordon, A: node}, {Kind: api.Move, A: node}}[r.IntN(4)]
	case 13:
		return api.Op{Kind: api.Moved, A: node, B: 1 + r.IntN(2)}
	case 14:
		if seldom {
			return []api.Op{{Kind: api.Target, A: 1 + r.IntN(3)}, {Kind: api.Pause}, {Kind: api.Resume}, {Kind: api.Abort}}[r.IntN(4)]
		}
	}
	return someHold(r, m)
}

// someHold is one of free nodes, if there are any that do.
func someHold(r *rand.Rand, m moment) api.Op {
	for range 20 {
		o := api.Op{Kind: api.Hold, A: 1 + r.IntN(len(m.s.Jobs)+1), B: r.IntN(1 << m.c.Nodes)}
		if _, e := book.Apply(m.c, m.s, o); e == api.OK {
			return o
		}
	}
	return api.Op{Kind: api.Newterm}
}

// marked is which sort of node one is: free, up with a job, cordoned, cordoned with a job, moving, down, down and cordoned.
func marked(n api.Node) int {
	switch {
	case !n.Up && n.Cordon:
		return 6
	case !n.Up:
		return 5
	case n.Moving:
		return 4
	case n.Cordon && n.Job != 0:
		return 3
	case n.Cordon:
		return 2
	case n.Job != 0:
		return 1
	}
	return 0
}

// reserved is where a job's reservation stands: nowhere, now, at the only end, at the first one, between, at the last one.
func reserved(m moment, job int) int {
	at, _, ok := slowReserve(m.s, job, m.now)
	times := slowTimes(m.s, m.now)[1:]
	switch {
	case !ok:
		return 0
	case at == m.now:
		return 1
	case slices.Min(times) == slices.Max(times):
		return 2
	case at == slices.Min(times):
		return 3
	case at < slices.Max(times):
		return 4
	}
	return 5
}

// started is who starts: nobody for there is no line, the head, nobody, one beside the head's nodes, one on them, one where the head has no reservation.
func started(m moment) int {
	line := rank.Line(m.s)
	if len(line) == 0 {
		return 0
	}
	job, nodes, ok := slowNext(m.s, m.now)
	_, kept, has := slowReserve(m.s, line[0], m.now)
	switch {
	case ok && job == line[0]:
		return 1
	case !ok:
		return 2
	case !has:
		return 5
	case nodes&kept == 0:
		return 3
	}
	return 4
}

// P16.1, P16.2: states that ops lead to; they have nodes of each sort, jobs of each phase, reservations and starts of each sort, ends that were, are, and are to come.
func TestRuns(t *testing.T) {
	var phases [5]int
	var sorts [7]int
	var places, starts [6]int
	var ends [3]int
	runs(func(m moment) {
		if wantSlow(t, m.s, m.now); t.Failed() {
			t.FailNow()
		}
		for _, n := range m.s.Nodes {
			sorts[marked(n)]++
		}
		for i, j := range m.s.Jobs {
			phases[j.Phase]++
			if j.Phase == api.Queued {
				places[reserved(m, i+1)]++
			}
			if j.Phase == api.Running {
				ends[min(1, max(-1, j.Since+j.Work-m.now))+1]++
			}
		}
		starts[started(m)]++
	})
	for _, l := range [][]int{phases[:], sorts[:], places[:], starts[:], ends[:]} {
		if slices.Min(l) < 50 {
			t.Error("too few of a sort:", phases, sorts, places, starts, ends)
		}
	}
}

// P16.1, P16.2: the same states at other times, the first one and the last one among them.
func TestRunsAtTimes(t *testing.T) {
	r := rand.New(rand.NewPCG(2, 16))
	n := 0
	runs(func(m moment) {
		if n++; n%3 != 0 {
			return
		}
		for _, now := range []int{0, last, r.IntN(last + 1), max(0, m.now-1-r.IntN(20)), min(last, m.now+1+r.IntN(20))} {
			if wantSlow(t, m.s, now); t.Failed() {
				t.FailNow()
			}
		}
	})
}

// P16.3 and P16.4.

// hold is the state behind a job's Hold, which must be OK.
func hold(t *testing.T, m moment, job, nodes int) api.State {
	t.Helper()
	x, e := book.Apply(m.c, m.s, api.Op{Kind: api.Hold, A: job, B: nodes})
	if e != api.OK || x.Jobs[job-1].Phase != api.Held || x.Jobs[job-1].Nodes != nodes {
		t.Fatal("job", job, "can't be held by", nodes, e, "now", m.now, m.s)
	}
	return x
}

// wantNoDelay: in x the head has a reservation no later than it had.
func wantNoDelay(t *testing.T, m moment, x api.State) {
	t.Helper()
	head := rank.Line(m.s)[0]
	at, _, ok := ahead.Reserve(m.s, head, m.now)
	again, nodes, has := ahead.Reserve(x, head, m.now)
	if ok && (!has || again > at) {
		t.Fatal("job", head, "now", m.now, "had", at, "has", again, nodes, has, x, "behind", m.s)
	}
}

// wantStarts holds whoever starts, one behind the other, until nobody does.
func wantStarts(t *testing.T, m moment) (n int) {
	t.Helper()
	for ; ; n++ {
		job, nodes, ok := ahead.Next(m.s, m.now)
		if !ok {
			return n
		}
		x := hold(t, m, job, nodes)
		if job != rank.Line(m.s)[0] {
			wantNoDelay(t, m, x)
		}
		m.s = x
	}
}

// wantFillsHeld holds each that may fill in, alone.
func wantFillsHeld(t *testing.T, m moment) (n int) {
	t.Helper()
	for k := range m.s.Jobs {
		if nodes, ok := ahead.Fill(m.s, k+1, m.now); ok {
			wantNoDelay(t, m, hold(t, m, k+1, nodes))
			n++
		}
	}
	return n
}

// P16.3, P16.4: in states of runs.
func TestNoDelay(t *testing.T) {
	var met [3]int
	filled := 0
	runs(func(m moment) {
		met[min(2, wantStarts(t, m))]++
		filled += wantFillsHeld(t, m)
	})
	if slices.Min(met[:]) < 100 || filled < 1000 {
		t.Error("too few starts:", met, filled)
	}
}

// P16.3, P16.4: in every three nodes.
func TestNoDelayEach(t *testing.T) {
	n := 0
	threes(8, func(s api.State) {
		for _, now := range []int{0, 5, 6, 7, last} {
			m := moment{fleet(3), s, now}
			n += wantStarts(t, m)
			wantFillsHeld(t, m)
		}
	})
	if n < 1000 {
		t.Error("too few starts:", n)
	}
}

// P16.3: a job whose Inc is MaxTime is told all the same, though it can't be held; one below it can be.
func TestGreatestInc(t *testing.T) {
	for _, inc := range []int{0, 1, last - 1, last} {
		s := state("1 1 0 | u1 u1 d1", queued(9, 3, 3, 1, 0), queued(0, 1, 1, 1, 0))
		s.Jobs[1].Inc = inc
		wantFill(t, right(t, s), 2, 4, 1)
		wantNext(t, s, 4, 2, 1)
		s.Jobs[0].Min, s.Jobs[0].Inc = 1, inc
		wantNext(t, right(t, s), 4, 1, 3)
		if inc < last {
			wantStarts(t, moment{fleet(3), s, 4})
		}
	}
}

// P16.2, P16.4: a fleet that goes on by who starts: two fill in, others would be too late; the job that the head waits for takes longer than it should, and once it is done the head is held.
func TestStepByStep(t *testing.T) {
	s := behind(t, "submit 0 1 3 3 9 0", "submit 0 5 6 6 9 0", "submit 0 1 2 2 6 0", "submit 0 1 1 1 7 0", "submit 0 1 1 3 9 0", "submit 0 0 1 1 2 0", "hold 1 7", "start 1 1")
	for i, x := range []struct {
		now         int
		job, nodes  int
		at          int
		then, again string
	}{
		{3, 3, 24, 10, "hold 3 24", "start 3 3"},
		{4, 6, 32, 10, "hold 6 32", "start 6 4"},
		{5, 0, none, 10, "newterm", "newterm"},
		{6, 0, none, 10, "done 6", "newterm"},
		{6, 0, none, 10, "newterm", "newterm"},
		{9, 0, none, 10, "done 3", "newterm"},
		{10, 0, none, 10, "newterm", "newterm"},
		{12, 0, none, 12, "done 1", "newterm"},
		{12, 2, 63, 12, "hold 2 63", "start 2 12"},
		{13, 0, none, 0, "newterm", "newterm"},
	} {
		wantNext(t, s, x.now, x.job, x.nodes)
		if x.at != 0 {
			at, nodes, ok := ahead.Reserve(s, 2, x.now)
			if at != x.at || nodes != 63 || !ok {
				t.Error("head", at, nodes, ok)
			}
		}
		if wantSlow(t, s, x.now); t.Failed() {
			t.Fatal("step", i)
		}
		s = after(t, after(t, s, x.then), x.again)
	}
}

// The rules that hold everywhere.

// roomy is a state with spare room behind its lists, in which there are jobs and nodes too.
func roomy(s api.State) api.State {
	j, n := queued(9, 1, 1, 1, 0), api.Node{Up: true, Version: 1}
	s.Jobs = append(slices.Clone(s.Jobs), j, running(0, 1), j)[:len(s.Jobs)]
	s.Nodes = append(slices.Clone(s.Nodes), n, n, n)[:len(s.Nodes)]
	return s
}

func whole[T any](l []T) []T { return l[:cap(l)] }

// someStates are some of all sorts.
func someStates(t *testing.T) []api.State {
	return []api.State{
		mixed(t),
		behind(t),
		state("1 1 0 | u1 u1 u1:1 u1:2", running(3, 9), draining(20), queued(9, 3, 3, 50, 0), queued(0, 1, 1, 7, 0), queued(3, 1, 2, 2, 0)),
		state("2 1 0 | u1 u1 u2 u1:1", running(3, 9), queued(9, 3, 3, 5, 1), queued(0, 1, 1, 1000, 2)),
		state("1 1 0 | d1", queued(0, 1, 1, 1, 0)),
	}
}

// Rule 4: a state that is handed in isn't changed, its spare room included, nor is what stands there asked for.
func TestHandedIn(t *testing.T) {
	for _, first := range someStates(t) {
		s := roomy(first)
		for i := range s.Jobs { // numbers that count for no job that waits
			if j := &s.Jobs[i]; j.Phase == api.Queued {
				j.Inc, j.Epoch, j.Since, j.Until = 3, 2, 77, 78
			}
		}
		jobs, nodes := slices.Clone(whole(s.Jobs)), slices.Clone(whole(s.Nodes))
		for _, now := range []int{0, 5, 11, 12, last} {
			wantSlow(t, s, now)
			for i := range 3 {
				wantEnd(t, s, len(s.Jobs)+1+i, now, -1)
				wantReserve(t, s, len(s.Jobs)+1+i, now, 0, none)
				wantFill(t, s, len(s.Jobs)+1+i, now, none)
			}
		}
		if !slices.Equal(whole(s.Jobs), jobs) || !slices.Equal(whole(s.Nodes), nodes) {
			t.Error("changed:", s)
		}
	}
}

// Rule 6: what is asked of a state that is changed where it stands is answered of it as it is.
func TestChangedInPlace(t *testing.T) {
	s := state("1 1 0 | u1 u1 u1:1 u1:2", running(3, 9), draining(20), queued(9, 3, 3, 50, 0), queued(0, 1, 1, 7, 0))
	for i, x := range []struct {
		change     func()
		at, kept   int
		fill       int
		job, nodes int
	}{
		{func() {}, 12, 7, 1, 4, 1},
		{func() { s.Jobs[0].Since = 2 }, 11, 7, none, 0, none},
		{func() { s.Jobs[0].Work = 10 }, 12, 7, 1, 4, 1},
		{func() { s.Jobs[1].Until = 11 }, 11, 11, none, 0, none},
		{func() { s.Jobs[3].Work = 6 }, 11, 11, 1, 4, 1},
		{func() { s.Nodes[0].Version = 2 }, 12, 14, 1, 4, 1},
		{func() { s.Jobs[2].Min = 1 }, 5, 2, 1, 3, 2},
		{func() { s.Goal = 2 }, 5, 1, 2, 3, 1},
		{func() { s.Jobs[2].Pin = 2; s.Jobs[2].Prio = 0 }, 5, 1, 2, 3, 1},
		{func() { s.Jobs[3].Prio = 1 }, 5, 1, none, 4, 1},
		{func() { s.Nodes[0].Cordon = true }, 0, none, none, 4, 2},
		{func() { s.Jobs[3].Prio = 0 }, 0, none, 2, 4, 2},
	} {
		x.change()
		right(t, s)
		wantReserve(t, s, 3, 5, x.at, x.kept)
		wantFill(t, s, 4, 5, x.fill)
		wantNext(t, s, 5, x.job, x.nodes)
		if wantSlow(t, s, 5); t.Failed() {
			t.Fatal("change", i)
		}
	}
}

// Rule 6: the same answers, whatever was asked between.
func TestSameAgain(t *testing.T) {
	for range 20 {
		for _, s := range someStates(t) {
			for _, now := range []int{0, 5, 12} {
				wantSlow(t, s, now)
			}
		}
	}
}

// Rule 3: nil and empty lists of jobs and nodes are one.
func TestNil(t *testing.T) {
	for _, s := range []api.State{{}, {Nodes: []api.Node{}}, {Jobs: []api.Job{}}, {Nodes: []api.Node{}, Jobs: []api.Job{}}} {
		wantEnd(t, s, 1, 5, -1)
		wantAt(t, s, 5, 5, 0)
		wantReserve(t, s, 1, 5, 0, none)
		wantFill(t, s, 1, 5, none)
		wantNext(t, s, 5, 0, none)
	}
}

// ends waits for calls, but not for long.
func ends(t *testing.T, calls func()) {
	t.Helper()
	done := make(chan struct{})
	go func() {
		defer close(done)
		calls()
	}()
	select {
	case <-done:
	case <-time.After(60 * time.Second):
		t.Fatal("calls that don't end")
	}
}

// Rule 1: each call ends, and none panics, not even of states that may not be, and times that are none, of which nothing else is promised.
func TestNoPanic(t *testing.T) {
	odd := []int{math.MinInt, -1, 0, 1, 5, 10, 63, math.MaxInt}
	var s api.State
	for i := range 100 {
		n := odd[i%8]
		s.Nodes = append(s.Nodes, api.Node{Up: i%7 != 0, Cordon: i%5 == 0, Moving: i%11 == 0, Version: odd[i%6], Job: odd[i%4]})
		s.Jobs = append(s.Jobs, api.Job{Prio: n, Min: odd[i%7], Max: n, Work: odd[i%5], Pin: odd[i%5], Phase: i%7 - 1, Nodes: n, Since: odd[(i+3)%8], Until: odd[(i+5)%8]})
	}
	ends(t, func() {
		for _, x := range []api.State{{}, s, {Nodes: s.Nodes}, {Jobs: s.Jobs}, {Nodes: s.Nodes[:7], Jobs: s.Jobs[:9], Mode: -1}, {Nodes: s.Nodes[:6], Jobs: s.Jobs, Mode: api.Aborted, Prior: math.MinInt}} {
			for _, now := range odd {
				ahead.Next(x, now)
				for _, k := range append(slices.Clone(odd), 2, 3, 4, 24, 99, 100, 101) {
					ahead.End(x, k, now)
					ahead.At(x, now, k)
					ahead.Reserve(x, k, now)
					ahead.Fill(x, k, now)
				}
			}
		}
	})
}
