package plan_test

import (
	"math"
	"math/rand/v2"
	"slices"
	"strconv"
	"strings"
	"testing"
	"time"

	"dunnage/ahead"
	"dunnage/api"
	"dunnage/book"
	"dunnage/fit"
	"dunnage/ops"
	"dunnage/plan"
	"dunnage/rank"
	"dunnage/wave"
)

const (
	nothing  = "" // instead of an op's words, where there is none
	last     = api.MaxTime
	now      = 100 // of states that are written out
	mostRest = 90  // by how many ops each state is at rest
)

// fleet is one of so many nodes, of three queues, with the deadline 9.
func fleet(nodes, quota, wave int) api.Conf {
	return api.Conf{Nodes: nodes, Queues: 3, Quota: quota, Wave: wave, Lease: 6, Retry: 2, Deadline: 9, Room: 500, Disk: 4000}
}

// queued is a job that waits for least to most nodes of a version (0: any).
func queued(prio, least, most, work, pin int) api.Job {
	return api.Job{Prio: prio, Min: least, Max: most, Work: work, Pin: pin}
}

// held, running, draining and ended are jobs of one node or more; which they have, state says.

func held(work int) api.Job { return api.Job{Work: work, Phase: api.Held, Inc: 1} }

func running(since, work int) api.Job {
	return api.Job{Work: work, Phase: api.Running, Inc: 1, Since: since}
}

func draining(until int) api.Job {
	return api.Job{Work: 5, Phase: api.Draining, Inc: 1, Until: until}
}

func ended() api.Job { return api.Job{Work: 5, Phase: api.Ended, Inc: 1} }

// in is a job of another queue than 0.
func in(queue int, j api.Job) api.Job {
	j.Queue = queue
	return j
}

// of is a job of another priority than 0, that may have so many nodes alone, of a version (0: any).
func of(prio, nodes, pin int, j api.Job) api.Job {
	j.Prio, j.Min, j.Max, j.Pin = prio, nodes, nodes, pin
	return j
}

// inc is a job that was held so often.
func inc(n int, j api.Job) api.Job {
	j.Inc = n
	return j
}

// state is that of a text (goal, prior and mode; behind a bar the nodes), with these jobs; those that aren't told how many nodes they may have may have any number.
func state(text string, jobs ...api.Job) api.State {
	head, tail, _ := strings.Cut(text, "|")
	l := strings.Fields(head)
	s := api.State{Goal: number(l[0]), Prior: number(l[1]), Mode: number(l[2]), Jobs: slices.Clone(jobs)}
	for i, word := range strings.Fields(tail) {
		n := node(word)
		s.Nodes = append(s.Nodes, n)
		if n.Job > 0 {
			s.Jobs[n.Job-1].Nodes |= 1 << i
		}
	}
	for i := range s.Jobs {
		if s.Jobs[i].Min == 0 {
			s.Jobs[i].Min, s.Jobs[i].Max = 1, len(s.Nodes)
		}
	}
	return s
}

// node is that of a word: u for up, d for down, c for cordoned, m for moving (so up and cordoned); its version; its job behind a colon.
func node(word string) api.Node {
	marks, job, has := strings.Cut(word, ":")
	n := api.Node{
		Up:      strings.ContainsAny(marks, "um"),
		Cordon:  strings.ContainsAny(marks, "cm"),
		Moving:  strings.Contains(marks, "m"),
		Version: number(strings.TrimLeft(marks, "udcm")),
	}
	if has {
		n.Job = number(job)
	}
	return n
}

func number(word string) int {
	n, e := strconv.Atoi(word)
	if e != nil {
		panic(word)
	}
	return n
}

// right is a state, which may be of the fleet.
func right(t *testing.T, c api.Conf, s api.State) api.State {
	t.Helper()
	if !book.Right(c, s) {
		t.Fatal("no state that may be:", c, s)
	}
	return s
}

// op is that of words; a zero one of nothing.
func op(t *testing.T, words string) api.Op {
	t.Helper()
	o, ok := ops.Parse(words)
	if !ok && words != nothing {
		t.Fatal("no op:", words)
	}
	return o
}

// list is the ops of words with commas between.
func list(t *testing.T, words string) []api.Op {
	t.Helper()
	var l []api.Op
	if words != nothing {
		for _, x := range strings.Split(words, ", ") {
			l = append(l, op(t, x))
		}
	}
	return l
}

// told is the words of ops.
func told(l []api.Op) string {
	words := make([]string, len(l))
	for i, o := range l {
		words[i] = ops.Text(o)
	}
	return strings.Join(words, ", ")
}

// applied is the state behind ops, which must be OK.
func applied(t *testing.T, c api.Conf, s api.State, l ...api.Op) api.State {
	t.Helper()
	for _, o := range l {
		x, e := book.Apply(c, s, o)
		if e != api.OK {
			t.Fatal(ops.Text(o), e, "of", c, s)
		}
		s = x
	}
	return s
}

// same says whether two states are.
func same(a, b api.State) bool {
	return slices.Equal(a.Nodes, b.Nodes) && slices.Equal(a.Jobs, b.Jobs) && a.Goal == b.Goal && a.Prior == b.Prior && a.Mode == b.Mode && a.Term == b.Term
}

// A slow reading of the chapter's words.

// slowLate asks each job, the last one first.
func slowLate(s api.State, now int) []int {
	l := []int{}
	for k := len(s.Jobs); k >= 1; k-- {
		if s.Jobs[k-1].Phase == 3 && !(s.Jobs[k-1].Until > now) {
			l = append([]int{k}, l...)
		}
	}
	return l
}

// slowStart asks the head for nodes now, and then the others in the line whether they may fill in.
func slowStart(s api.State, now int) api.Op {
	for place, job := range rank.Line(s) {
		nodes, ok := ahead.Fill(s, job, now)
		if place == 0 {
			nodes, ok = fit.Now(s, job)
		}
		if ok {
			return api.Op{Kind: 9, A: job, B: nodes}
		}
	}
	return api.Op{}
}

// slowWays is what each of the three ways tells; zero ops where there is nothing.
func slowWays(c api.Conf, s api.State, now int) (l [3]api.Op) {
	for _, job := range slowLate(s, now) {
		if l[0].A == 0 || job < l[0].A {
			l[0] = api.Op{Kind: 14, A: job}
		}
	}
	if o, ok := wave.Next(c, s, now); ok {
		l[1] = o
	}
	l[2] = slowStart(s, now)
	return l
}

// way is which of the three ways tells first; 3 if none does.
func way(c api.Conf, s api.State, now int) int {
	l := slowWays(c, s, now)
	for i, o := range l {
		if o.Kind != 0 {
			return i
		}
	}
	return 3
}

func slowNext(c api.Conf, s api.State, now int) api.Op {
	l := slowWays(c, s, now)
	return append(l[:], api.Op{})[way(c, s, now)]
}

// slowRun is the states of a run, the first one in front, and its ops, as many as there are; below a thousand, so that it ends.
func slowRun(c api.Conf, s api.State, now int) ([]api.State, []api.Op) {
	states, l := []api.State{s}, []api.Op{}
	for len(l) < 1000 {
		o := slowNext(c, s, now)
		x, e := book.Apply(c, s, o) // a zero op isn't OK
		if e != 0 {
			break
		}
		s, states, l = x, append(states, x), append(l, o)
	}
	return states, l
}

// What is wanted.

func wantLate(t *testing.T, s api.State, now int, want ...int) {
	t.Helper()
	if l := plan.Late(s, now); !slices.Equal(l, want) {
		t.Error("late now", now, l, "want", want, "of", s)
	}
}

func wantOp(t *testing.T, c api.Conf, s api.State, now int, want api.Op) {
	t.Helper()
	if o, ok := plan.Next(c, s, now); o != want || ok != (want.Kind != 0) {
		t.Error("next now", now, o, ok, "want", want, ops.Text(want), "of", c, s)
	}
}

func wantNext(t *testing.T, c api.Conf, s api.State, now int, words string) {
	t.Helper()
	wantOp(t, c, s, now, op(t, words))
}

func wantRun(t *testing.T, c api.Conf, s api.State, now, most int, behind api.State, want []api.Op) {
	t.Helper()
	x, l := plan.Run(c, s, now, most)
	if !slices.Equal(l, want) || !same(x, behind) {
		t.Error("run now", now, "of at most", most, told(l), "want", told(want), "behind", x, "want", behind, "of", c, s)
	}
}

// wantLates asks at now, and at each job's time, and beside these.
func wantLates(t *testing.T, s api.State, now int) {
	t.Helper()
	l := []int{0, now, last}
	for _, j := range s.Jobs {
		l = append(l, max(0, j.Until-1), j.Until, min(last, j.Until+1))
	}
	for _, x := range l {
		wantLate(t, s, x, slowLate(s, x)...)
	}
}

// wantSlow holds all calls against the slow reading, of a state that may be.
func wantSlow(t *testing.T, c api.Conf, s api.State, now int) {
	t.Helper()
	wantLates(t, right(t, c, s), now)
	wantOp(t, c, s, now, slowNext(c, s, now))
	states, l := slowRun(c, s, now)
	for _, most := range []int{math.MinInt, -1, 0, 1, 2, len(l) - 1, len(l), len(l) + 1, 24, math.MaxInt} {
		n := min(max(0, most), len(l))
		wantRun(t, c, s, now, most, states[n], l[:n])
	}
}

// row is a state, and the ops of a run.
type row struct {
	text string
	jobs []api.Job
	run  string
}

// wantRows asks for what is next now, and for all that is done.
func wantRows(t *testing.T, quota, most int, l []row) {
	t.Helper()
	for _, x := range l {
		s := state(x.text, x.jobs...)
		c := fleet(len(s.Nodes), quota, most)
		first, _, _ := strings.Cut(x.run, ", ")
		wantNext(t, c, right(t, c, s), now, first)
		want := list(t, x.run)
		wantRun(t, c, s, now, math.MaxInt, applied(t, c, s, want...), want)
		if wantSlow(t, c, s, now); t.Failed() {
			t.Fatal("row", x)
		}
	}
}

func jobs(l ...api.Job) []api.Job { return l }

// The chapter's example.

// P18.1, P18.2: one free node, a job: Hold of it with the node.
func TestExample(t *testing.T) {
	c := fleet(1, 1, 1)
	s := applied(t, c, book.New(c), op(t, "submit 0 0 1 1 5 0"))
	hold := op(t, "hold 1 1")
	for _, x := range []int{0, 1, 7, last} {
		wantLate(t, s, x)
		wantOp(t, c, s, x, api.Op{Kind: api.Hold, A: 1, B: 1})
		wantRun(t, c, s, x, 90, applied(t, c, s, hold), []api.Op{hold})
		wantNext(t, c, applied(t, c, s, hold), x, nothing)
	}
}

// P18.1: Late.

// P18.1: jobs that are Draining, and none of another phase, whatever their Until; from that on.
func TestLate(t *testing.T) {
	for phase := api.Queued; phase <= api.Ended; phase++ {
		for _, x := range []struct {
			until, now int
			want       bool
		}{
			{0, 0, true}, {0, 1, true}, {0, last, true}, {1, 0, false}, {1, 1, true}, {1, 2, true}, {7, 6, false}, {7, 7, true}, {7, 8, true}, {100, 99, false}, {100, 100, true}, {100, 101, true},
			{last, 0, false}, {last, 100, false}, {last, last - 1, false}, {last, last, true}, {last - 1, last, true}, {last - 1, last - 1, true}, {last - 1, last - 2, false},
		} {
			text, j := "1 1 0 | u1:1 u1:1", draining(x.until)
			if j.Phase = phase; phase == api.Queued || phase == api.Ended {
				text = "1 1 0 | u1 u1"
			}
			s := state(text, j)
			right(t, fleet(2, 1, 1), s)
			if x.want && phase == api.Draining {
				wantLate(t, s, x.now, 1)
			} else {
				wantLate(t, s, x.now)
			}
		}
	}
}

// P18.1: neither Since nor Work nor the nodes count, nor a queue, a priority, a mode.
func TestLateElse(t *testing.T) {
	for mode := range 3 {
		for _, since := range []int{0, 99, 100, 101, last} {
			for _, work := range []int{1, 1000} {
				for _, until := range []int{99, 100, 101} {
					j := draining(until)
					j.Since, j.Work, j.Queue, j.Prio, j.Epoch = since, work, mode, 3*mode, mode/2
					s := state("2 1 0 | uc1:1 u1 u1", j)
					s.Mode = mode
					right(t, fleet(3, 1, 1), s)
					wantLate(t, s, 100, []int{1}[:max(0, min(1, 101-until))]...)
				}
			}
		}
	}
}

// P18.1: all of them, rising, whichever drained first, and whatever stands between.
func TestLateAll(t *testing.T) {
	s := state("1 1 0 | u1:9 u1:2 u1:5 u1:6 u1:3 u1:8", ended(), draining(9), running(0, 1), queued(0, 1, 1, 1, 0), in(1, draining(3)), in(2, draining(6)), ended(), held(1), in(1, draining(5)))
	s.Jobs[2].Until, s.Jobs[3].Until, s.Jobs[6].Until, s.Jobs[7].Until = 1, 1, 1, 1
	right(t, fleet(6, 2, 1), s)
	for at, want := range [][]int{nil, nil, nil, {5}, {5}, {5, 9}, {5, 6, 9}, {5, 6, 9}, {5, 6, 9}, {2, 5, 6, 9}, {2, 5, 6, 9}} {
		wantLate(t, s, at, want...)
	}
	s = state("1 1 0 | u1:1 u1:2 u1:3 u1:4 u1:5 u1:6", draining(1), draining(2), in(1, draining(3)), in(1, draining(4)), in(2, draining(5)), in(2, draining(6)))
	right(t, fleet(6, 2, 1), s)
	for at := range 8 {
		wantLate(t, s, at, []int{1, 2, 3, 4, 5, 6}[:min(6, at)]...)
	}
}

// P18.1: of no jobs, and of as many as there may be, the last ones of which are late.
func TestLateMany(t *testing.T) {
	wantLate(t, api.State{}, 0)
	wantLate(t, state("1 1 0 | u1 u1"), last)
	l := slices.Repeat([]api.Job{queued(0, 1, 1, 1, 0), ended()}, 9)
	l = append(l, draining(7), draining(6), in(1, draining(5)), in(1, draining(7)), in(2, draining(7)), in(2, draining(8)))
	s := state("1 1 0 | u1:24 u1:23 u1:22 u1:21 u1:20 u1:19", l...)
	right(t, fleet(6, 2, 1), s)
	wantLate(t, s, 4)
	wantLate(t, s, 5, 21)
	wantLate(t, s, 6, 20, 21)
	wantLate(t, s, 7, 19, 20, 21, 22, 23)
	wantLate(t, s, 8, 19, 20, 21, 22, 23, 24)
}

// P18.1: Next.

// P18.1: a late job comes first, then the wave, unless that is Paused, then who starts; whichever of these there are.
func TestFirst(t *testing.T) {
	for i := range 8 {
		for mode, head := range []string{"1 2 0|", "1 2 1|", "2 1 2|"} {
			words := [4]string{"evict 2", "uncordon 1", "hold 3 4", nothing}
			l, job := []string{"u1:2", "dc1", "u1"}, draining(now+1)
			if i&1 != 0 {
				job = draining(now)
			}
			if i&2 != 0 {
				l[1] = "uc1"
			}
			if i&4 == 0 {
				l[2] = "d1"
			}
			first := []int{3, 0, 1, 0, 2, 0, 1, 0}[i]
			if mode == api.Paused && first == 1 {
				first = []int{3, 2}[i/4]
			}
			s := state(head+strings.Join(l, " "), ended(), job, queued(5, 1, 1, 5, 0))
			c := fleet(3, 1, 1)
			wantNext(t, c, right(t, c, s), now, words[first])
			if way(c, s, now) != first {
				t.Error("slow reading:", i, mode)
			}
			wantSlow(t, c, s, now)
		}
	}
}

// P18.1, P18.2: Evict of the first one that is late, by its number, neither by its time nor by its priority; of those that are late alone.
func TestEvict(t *testing.T) {
	wantRows(t, 2, 1, []row{
		{"1 1 0 | u1:1", jobs(draining(100)), "evict 1, hold 1 1"}, {"1 1 0 | u1:1", jobs(draining(0)), "evict 1, hold 1 1"}, {"1 1 0 | u1:1", jobs(draining(99)), "evict 1, hold 1 1"},
		{"1 1 0 | u1:1", jobs(draining(101)), nothing}, {"1 1 0 | u1:1", jobs(draining(last)), nothing}, {"1 1 0 | u1:1", jobs(running(0, 1)), nothing}, {"1 1 0 | u1:1", jobs(held(1)), nothing},
		{"1 1 0 | u1:2 u1:1", jobs(draining(100), draining(50)), "evict 1, evict 2, hold 1 3"}, {"1 1 0 | u1:2 u1:1", jobs(draining(50), draining(100)), "evict 1, evict 2, hold 1 3"},
		{"1 1 0 | u1:2 u1:1", jobs(draining(101), draining(50)), "evict 2, hold 2 1"}, {"1 1 0 | u1:2 u1:1", jobs(draining(100), draining(101)), "evict 1, hold 1 2"},
		{"1 1 0 | u1:2 u1:1", jobs(of(0, 1, 0, draining(90)), of(9, 1, 0, draining(80))), "evict 1, evict 2, hold 2 1, hold 1 2"},
		{"1 1 0 | u1:3 u1:3 u1:4", jobs(ended(), queued(0, 3, 3, 5, 0), of(0, 2, 0, draining(1)), of(0, 1, 0, draining(200))), "evict 3, hold 3 3"},
		{"1 1 0 | u1:1 u1:2 u1:3", jobs(of(0, 1, 0, draining(1)), in(1, of(0, 1, 0, draining(1))), in(2, of(0, 1, 0, draining(1)))), "evict 1, evict 2, evict 3, hold 1 1, hold 2 2, hold 3 4"},
		{"1 1 1 | u1:1", jobs(draining(100)), "evict 1, hold 1 1"}, {"1 2 2 | uc2:1", jobs(draining(100)), "evict 1, uncordon 0, hold 1 1"},
	})
}

// P18.1, P18.2: what is next of the wave, of each kind, with the fleet's numbers and the time.
func TestWave(t *testing.T) {
	wantRows(t, 1, 1, []row{
		{"2 1 0 | u1", nil, "cordon 0, move 0"}, {"2 1 0 | uc1", nil, "move 0"}, {"2 1 0 | uc2", nil, "uncordon 0"}, {"2 1 0 | m1", nil, nothing}, {"2 1 0 | dc1", nil, nothing}, {"2 1 0 | u2", nil, nothing},
		{"2 1 0 | u1:1", jobs(running(0, 5)), "cordon 0, drain 1 109"}, {"2 1 0 | uc1:1 u2", jobs(of(0, 1, 0, held(5))), "unhold 1, move 0, hold 1 2"}, {"2 1 0 | uc1:1 u1:1", jobs(running(0, 5)), "shrink 1 0, move 0"},
		{"2 1 0 | uc1:1 u2", jobs(of(0, 1, 0, draining(100))), "evict 1, move 0, hold 1 2"}, {"2 1 0 | uc1:1 u2", jobs(of(0, 1, 0, draining(101))), nothing},
		{"2 1 0 | u1 u1", nil, "cordon 0, move 0"}, {"2 1 0 | u1 uc2", nil, "uncordon 1, cordon 0, move 0"}, {"2 1 0 | m1 u1", nil, nothing},
		{"2 1 0 | u1:1 u1:2", jobs(of(0, 1, 0, running(0, 5)), of(0, 1, 0, running(0, 5))), "cordon 0, drain 1 109"},
		{"2 1 1 | u1 uc2 uc1", nil, nothing}, {"2 1 2 | u1 u2", nil, "cordon 1, move 1"}, {"2 1 0 | u1:1 u1", jobs(of(0, 1, 1, running(0, 5))), "cordon 1, move 1"},
	})
	wantRows(t, 1, 2, []row{
		{"2 1 0 | u1 u1 u1", nil, "cordon 0, move 0, cordon 1, move 1"}, {"2 1 0 | u1:1 u1:2", jobs(of(0, 1, 0, running(0, 5)), of(0, 1, 0, running(0, 5))), "cordon 0, drain 1 109, cordon 1"},
		{"2 1 0 | u1:1 u1:2", jobs(of(0, 1, 0, running(0, 5)), in(1, of(0, 1, 0, running(0, 5)))), "cordon 0, drain 1 109, cordon 1, drain 2 109"},
	})
	wantRows(t, 0, 6, []row{{"2 1 0 | u1:1 u1:2", jobs(of(0, 1, 0, running(0, 5)), of(0, 1, 0, held(5))), "cordon 0, cordon 1, unhold 2, move 1"}})
}

// P18.1, P18.2: a drain's time is that of now and the fleet's deadline together; at the end of time it is late at once.
func TestDrained(t *testing.T) {
	s := state("2 1 0 | uc1:1 u2", of(0, 1, 0, running(0, 5)))
	for _, x := range []struct {
		now, deadline int
		run           string
	}{
		{0, 1, "drain 1 1"}, {0, 60, "drain 1 60"}, {5, 9, "drain 1 14"}, {last - 60, 60, "drain 1 1000000"}, {last - 61, 60, "drain 1 999999"}, {last - 1, 60, "drain 1 1000000"},
		{last, 1, "drain 1 1000000, evict 1, move 0, hold 1 2"}, {last, 60, "drain 1 1000000, evict 1, move 0, hold 1 2"},
	} {
		c := fleet(2, 1, 1)
		c.Deadline = x.deadline
		l := list(t, x.run)
		wantRun(t, c, right(t, c, s), x.now, mostRest, applied(t, c, s, l...), l)
		wantSlow(t, c, s, x.now)
	}
}

// P18.1, P18.2: while it is Paused, jobs are evicted and held all the same.
func TestPaused(t *testing.T) {
	l := jobs(of(0, 1, 0, draining(100)), of(0, 1, 0, running(0, 5)), queued(9, 1, 1, 5, 0))
	for head, run := range map[string]string{
		"2 1 0|": "evict 1, uncordon 4, move 0, drain 2 109, hold 3 4, hold 1 16", "2 1 1|": "evict 1, hold 3 4, hold 1 8", "1 2 2|": "evict 1, uncordon 4, move 0, drain 2 109, hold 3 4, hold 1 16",
	} {
		wantRows(t, 1, 1, []row{{head + "uc1:1 uc1:2 u2 u1 uc2", l, run}})
	}
}

// P18.1, P18.2: Hold of who starts with its nodes: the head, or who fills in, by the time.
func TestHold(t *testing.T) {
	wantRows(t, 1, 1, []row{
		{"1 1 0 | u1 u1", jobs(queued(0, 1, 1, 5, 0), queued(0, 1, 1, 5, 0)), "hold 1 1, hold 2 2"}, {"1 1 0 | u1 u1", jobs(queued(0, 1, 1, 5, 0), queued(1, 1, 1, 5, 0)), "hold 2 1, hold 1 2"},
		{"1 1 0 | u1 u1", jobs(queued(0, 1, 2, 5, 0), queued(0, 1, 1, 5, 0)), "hold 1 3"}, {"1 1 1 | u1 u2", jobs(queued(0, 1, 2, 5, 2), queued(0, 1, 1, 5, 2)), "hold 1 2"},
		{"1 1 0 | d1 uc1:1", jobs(running(0, 5), queued(0, 1, 1, 5, 0)), "uncordon 1"}, {"1 1 0 | u1", jobs(ended()), nothing}, {"1 1 0 | d1 m1", jobs(queued(0, 1, 1, 5, 0)), nothing},
		{"1 1 0 | u1 u1 u1:1", jobs(running(98, 10), queued(9, 3, 3, 5, 0), queued(0, 1, 1, 9, 0), queued(0, 1, 1, 8, 0), queued(0, 1, 1, 1, 0)), "hold 4 1, hold 5 2"}, // 3 would be too late
		{"1 1 0 | u1 u1 u1:1", jobs(running(97, 10), queued(9, 3, 3, 5, 0), queued(0, 1, 1, 9, 0), queued(0, 1, 1, 8, 0), queued(0, 1, 1, 1, 0)), "hold 5 1"},
		{"1 1 0 | u1 u1 d1", jobs(queued(9, 3, 3, 5, 0), queued(0, 1, 1, 9, 0)), "hold 2 1"}, // the head has no reservation
		{"1 1 1 | u1 u1:1 u2", jobs(running(0, 1000), queued(9, 2, 2, 5, 1), queued(0, 1, 1, 950, 1), queued(0, 1, 1, 950, 2)), "hold 4 4"},
	})
}

// P18.1, P18.2: a head that gets no nodes waits, and one behind it fills in; once it gets them, it is the one, and who is evicted stands where it stood.
func TestHeadWaits(t *testing.T) {
	s := state("1 1 0 | u1 u1:1 u1:2", running(0, 110), of(5, 1, 0, draining(110)), queued(9, 3, 3, 5, 0), queued(0, 1, 1, 10, 0))
	c := fleet(3, 1, 1)
	for _, x := range []struct {
		now int
		run string
	}{{100, "hold 4 1"}, {101, nothing}, {109, nothing}, {110, "evict 2"}, {111, "evict 2"}} {
		l := list(t, x.run)
		wantRun(t, c, right(t, c, s), x.now, mostRest, applied(t, c, s, l...), l)
		wantSlow(t, c, s, x.now)
	}
	s = applied(t, c, s, op(t, "done 1"))
	wantRun(t, c, s, 110, mostRest, applied(t, c, s, list(t, "evict 2, hold 3 7")...), list(t, "evict 2, hold 3 7"))
	s = applied(t, c, s, op(t, "cancel 3"))
	wantRun(t, c, s, 110, mostRest, applied(t, c, s, list(t, "evict 2, hold 2 1, hold 4 2")...), list(t, "evict 2, hold 2 1, hold 4 2"))
}

// P18.1, P18.2: where there is none, a zero op and false, no ops, and the state as it is.
func TestNothing(t *testing.T) {
	for _, text := range []string{"u2", "d1", "d1 d1 d1 d1 d1 d1", "dc1 dc2 dc3", "m1 m2 m3", "u2 u2 u2 u2 u2 u2", "d2 m1 dc3 u2"} {
		for _, l := range [][]api.Job{nil, jobs(ended()), jobs(ended(), queued(0, 1, 1, 1, 9), ended())} {
			s := state("2 1 0|"+text, l...)
			c := fleet(len(s.Nodes), 4, 6)
			for _, at := range []int{0, 50, last} {
				wantNext(t, c, right(t, c, s), at, nothing)
				wantRun(t, c, s, at, mostRest, s, nil)
			}
		}
	}
	for nodes := 1; nodes <= 6; nodes++ {
		c := fleet(nodes, 1, 1)
		wantNext(t, c, book.New(c), 0, nothing)
		wantRun(t, c, book.New(c), 0, 1, book.New(c), nil)
	}
	for _, c := range []api.Conf{{}, fleet(1, 1, 1), fleet(6, 4, 6)} {
		wantNext(t, c, api.State{}, 0, nothing)
		wantNext(t, c, api.State{Goal: 2, Nodes: []api.Node{}, Jobs: []api.Job{}}, 5, nothing)
	}
}

// P18.2: Run.

// busy is a state of which all that the plan may do is done, at now.
func busy() (api.Conf, api.State) {
	return fleet(6, 2, 4), state("2 1 0 | uc1:1 u1:2 u1:2 u1:3 u2 uc2",
		of(0, 1, 0, draining(100)), running(0, 5), of(0, 1, 0, held(5)), queued(0, 1, 1, 5, 0), queued(7, 1, 1, 5, 1))
}

// busyRun is what is done of it.
const busyRun = "evict 1, uncordon 5, move 0, cordon 1, shrink 2 1, move 1, cordon 2, drain 2 109, cordon 3, unhold 3, move 3, hold 1 16, hold 3 32"

// P18.2: a run of at most so many ops: none below 1; some; as many as there are; not more.
func TestMost(t *testing.T) {
	c, s := busy()
	want := list(t, busyRun)
	right(t, c, s)
	for _, most := range []int{math.MinInt, math.MinInt + 1, -last, -90, -13, -2, -1, 0} {
		wantRun(t, c, s, now, most, s, nil)
	}
	for most := range 16 {
		n := min(most, len(want))
		wantRun(t, c, s, now, most, applied(t, c, s, want[:n]...), want[:n])
	}
	for _, most := range []int{89, 90, 91, last, 1 << 32, math.MaxInt - 1, math.MaxInt} {
		wantRun(t, c, s, now, most, applied(t, c, s, want...), want)
	}
	wantSlow(t, c, s, now)
}

// P18.2: each op of a run is what Next tells of the state behind those ahead of it.
func TestEachOp(t *testing.T) {
	c, s := busy()
	for i, o := range list(t, busyRun) {
		wantOp(t, c, s, now, o)
		x, l := plan.Run(c, s, now, 1)
		if s = applied(t, c, s, o); !same(x, s) || !slices.Equal(l, []api.Op{o}) {
			t.Error("op", i, told(l), "want", ops.Text(o))
		}
	}
	wantNext(t, c, s, now, nothing)
	wantRun(t, c, s, now, mostRest, s, nil)
}

// wantParts asks that a run of so many ops is one of some of them, and one of the rest from there on.
func wantParts(t *testing.T, c api.Conf, s api.State, now int) {
	t.Helper()
	whole, all := plan.Run(c, s, now, mostRest)
	for n := range len(all) + 1 {
		x, first := plan.Run(c, s, now, n)
		y, rest := plan.Run(c, x, now, len(all)-n)
		if len(first) != n || !slices.Equal(append(first, rest...), all) || !same(y, whole) {
			t.Error("parts of", n, "and the rest:", told(first), told(rest), "of", told(all), s)
		}
	}
}

// P18.2: a run is one of some of its ops, and one of the rest.
func TestParts(t *testing.T) {
	c, s := busy()
	wantParts(t, c, s, now)
	wantParts(t, c, s, last)
	for _, at := range []int{0, 99, 105} {
		wantParts(t, c, s, at)
	}
}

// P18.2: an op that isn't OK, Hold of a job that was held as often as it may be, ends a run, and isn't told, though Next tells it; nothing behind it is done, though there would be something.
func TestNotOK(t *testing.T) {
	for _, x := range []struct {
		text string
		jobs []api.Job
		next string
		run  string
	}{
		{"1 1 0 | u1", jobs(inc(last, queued(0, 1, 1, 5, 0))), "hold 1 1", nothing},
		{"1 1 0 | u1 u1", jobs(inc(last, queued(5, 1, 1, 5, 0)), queued(0, 1, 1, 5, 0)), "hold 1 1", nothing},
		{"1 1 0 | u1 u1", jobs(inc(last, queued(0, 1, 1, 5, 0)), queued(5, 1, 1, 5, 0)), "hold 2 1", "hold 2 1"},
		{"1 1 0 | u1 u1", jobs(inc(last-1, queued(5, 1, 1, 5, 0)), queued(0, 1, 1, 5, 0)), "hold 1 1", "hold 1 1, hold 2 2"},
		{"1 1 0 | u1 u1", jobs(inc(last, of(5, 1, 0, draining(100))), queued(0, 1, 1, 5, 0)), "hold 1 1", nothing},
		{"1 1 0 | u1:1 u1", jobs(inc(last, of(5, 1, 0, draining(100))), queued(0, 1, 1, 5, 0)), "evict 1", "evict 1"},
		{"1 1 0 | u1:1 u1", jobs(inc(last-1, of(5, 1, 0, draining(100))), queued(0, 1, 1, 5, 0)), "evict 1", "evict 1, hold 1 1, hold 2 2"},
		{"2 1 0 | u1 u1 u2 u2", jobs(inc(last, queued(0, 2, 2, 5, 2)), queued(0, 1, 1, 5, 1)), "cordon 0", "cordon 0, move 0"},
		{"2 1 0 | uc1:1 u2 u2", jobs(inc(last, of(0, 1, 0, held(5))), queued(0, 1, 1, 5, 0)), "unhold 1", "unhold 1, move 0"},
		{"1 1 0 | u1 u1 u1:3", jobs(queued(9, 3, 3, 5, 0), inc(last, queued(5, 1, 1, 5, 0)), running(99, 9), queued(0, 1, 1, 5, 0)), "hold 2 1", nothing},
	} {
		s := state(x.text, x.jobs...)
		if s.Nodes[0].Job == 0 && s.Jobs[0].Phase == api.Draining {
			s.Jobs[0].Phase = api.Queued // as it is once it was evicted
		}
		c := fleet(len(s.Nodes), 1, 1)
		wantNext(t, c, right(t, c, s), now, x.next)
		l := list(t, x.run)
		for _, most := range []int{0, 1, 2, 3, 4, mostRest, math.MaxInt} {
			n := min(most, len(l))
			wantRun(t, c, s, now, most, applied(t, c, s, l[:n]...), l[:n])
		}
		wantSlow(t, c, s, now)
	}
}

// A fleet that goes on step by step.

// P18.1, P18.2: four nodes, two at a time: a job of two nodes is drained, evicted and held again, one is shrunk and drained, and ends; one that needs three waits until there are.
func TestStepByStep(t *testing.T) {
	c := fleet(4, 1, 2)
	s := book.New(c)
	for i, x := range []struct {
		now         int
		others, run string
	}{
		{0, nothing, nothing},
		{0, "submit 0 5 2 2 9 0, submit 0 1 1 2 9 0, submit 0 0 3 3 5 0", "hold 1 3, hold 2 12"},
		{1, "start 1 0, start 2 0", nothing},
		{2, "target 2", "cordon 0, drain 1 11, cordon 1"},
		{10, "saved 1 1, pause", nothing},
		{11, nothing, "evict 1"},
		{11, "resume", "move 0, move 1"},
		{12, "moved 0 2", "cordon 2, shrink 2 2, move 2"},
		{13, "moved 1 2", "cordon 3, drain 2 22, hold 1 3"},
		{14, "moved 2 2, start 1 13", nothing},
		{20, "done 2", "move 3"},
		{21, "moved 3 2", nothing},
		{22, "done 1", "hold 3 7"},
		{23, "down 1", "hold 3 13"},
		{24, "up 1 2", nothing},
		{25, "start 3 24, abort", "cordon 0, drain 3 34, cordon 1, move 1"},
		{33, nothing, nothing},
		{34, nothing, "evict 3, move 0"},
		{36, "moved 0 1, moved 1 1", "cordon 2, move 2, cordon 3, move 3"},
		{37, "moved 2 1", "hold 3 7"},
		{38, "moved 3 1, start 3 38", nothing},
	} {
		s = applied(t, c, s, list(t, x.others)...)
		l := list(t, x.run)
		if wantSlow(t, c, s, x.now); t.Failed() {
			t.Fatal("step", i)
		}
		behind := applied(t, c, s, l...)
		if wantRun(t, c, s, x.now, mostRest, behind, l); t.Failed() {
			t.Fatal("step", i)
		}
		s = behind
	}
	if !wave.Done(s) || len(rank.Line(s)) != 0 {
		t.Error("at the end:", s)
	}
}

// By the slow reading.

// each hands on all rows of the numbers l and one more below each of most, all in the same memory.
func each(l []int, most ...int) func(yield func([]int) bool) {
	return func(yield func([]int) bool) {
		if len(most) == 0 {
			yield(l)
			return
		}
		for n := range most[0] {
			for x := range each(append(l, n), most[1:]...) {
				if !yield(x) {
					return
				}
			}
		}
	}
}

var (
	heads = []string{"2 1 0|", "2 1 2|", "1 2 0|", "3 3 0|", "2 2 2|", "2 1 1|"}
	marks = []string{"u1", "u2", "d1", "uc1", "uc2", "dc1", "m1", "u1:1", "uc1:1", "u2:1", "uc2:1", "u1:2", "uc1:2", "u2:2"}
)

// moment is a state of a fleet at a time.
type moment struct {
	c   api.Conf
	s   api.State
	now int
}

// someFleet is one with any quota, wave and deadline.
func someFleet(r *rand.Rand, nodes int) api.Conf {
	c := fleet(nodes, r.IntN(3), 1+r.IntN(3))
	if r.IntN(4) == 0 {
		c.Quota, c.Wave, c.Deadline = r.IntN(5), 1+r.IntN(6), 1+r.IntN(60)
	}
	return c
}

// someJob is one of any phase, of any numbers that a fleet of so many nodes has room for, whose times are beside now.
func someJob(r *rand.Rand, nodes, now int) api.Job {
	least := 1 + r.IntN(min(3, nodes))
	j := queued(r.IntN(3), least, least+r.IntN(nodes-least+1), 1+r.IntN(8), max(0, r.IntN(6)-3))
	j.Queue, j.Phase, j.Inc = r.IntN(2), r.IntN(5), 1
	j.Since, j.Until = max(0, now-r.IntN(9)), min(last, max(0, now-3+r.IntN(7)))
	return j
}

// some is a state of these nodes with five jobs of any sort, at some time, of some fleet; false, if it may not be.
func some(r *rand.Rand, text string) (moment, bool) {
	at := []int{0, 1, 40, last - 9, last - 1, last}[r.IntN(6)]
	nodes := len(strings.Fields(text))
	var l []api.Job
	for range 5 {
		l = append(l, someJob(r, nodes, at))
	}
	s := state(heads[r.IntN(len(heads))]+text, l...)
	for i := range s.Jobs {
		j := &s.Jobs[i]
		if j.Nodes != 0 {
			j.Phase = 1 + r.IntN(3)
		} else if j.Phase != api.Ended {
			j.Phase = api.Queued
		}
	}
	m := moment{someFleet(r, nodes), s, at}
	return m, book.Right(m.c, m.s)
}

// threes hands on states of three nodes of each sort, some of each.
func threes(lots int, do func(m moment)) {
	r := rand.New(rand.NewPCG(3, 18))
	for l := range each(nil, len(marks), len(marks), len(marks)) {
		for range lots {
			if m, ok := some(r, marks[l[0]]+" "+marks[l[1]]+" "+marks[l[2]]); ok { // else a job has two versions, or too few nodes
				do(m)
			}
		}
	}
}

// sixes hands on states of six nodes of any sort.
func sixes(lots int, do func(m moment)) {
	r := rand.New(rand.NewPCG(4, 18))
	for range lots {
		words := make([]string, 6)
		for i := range words {
			words[i] = marks[r.IntN(len(marks))]
		}
		if m, ok := some(r, strings.Join(words, " ")); ok {
			do(m)
		}
	}
}

// runs hands on the states of runs of ops, each at the time that goes on meanwhile; some runs end at MaxTime.
func runs(do func(m moment)) {
	r := rand.New(rand.NewPCG(1, 18))
	for run := range 160 {
		m := moment{c: someFleet(r, []int{6, 6, 3, 1 + r.IntN(6)}[run%4])}
		m.s = book.New(m.c)
		if run%5 == 4 {
			m.now = last - 60
		}
		do(m)
		for range 300 {
			if x, e := book.Apply(m.c, m.s, someOp(r, m)); e == api.OK {
				m.s = x
				do(m)
			}
			if r.IntN(3) == 0 {
				m.now = min(last, m.now+1)
			}
		}
	}
}

// someOp is one that can mostly be done at some time, the plan's among them; jobs end, and nodes fail, seldom.
func someOp(r *rand.Rand, m moment) api.Op {
	node, seldom := r.IntN(m.c.Nodes), r.IntN(4) == 0
	k := m.s.Nodes[node].Job
	if k == 0 {
		k = 1 + r.IntN(len(m.s.Jobs)+1)
	}
	switch r.IntN(20) {
	case 0, 1:
		if least := 1 + r.IntN(m.c.Nodes); r.IntN(3) == 0 || len(m.s.Jobs) < 6 {
			return api.Op{Kind: api.Submit, A: r.IntN(m.c.Queues), B: r.IntN(10), C: max(1, least-1), D: least + r.IntN(m.c.Nodes-least+1), E: 1 + r.IntN(15), F: max(0, r.IntN(6)-3)}
		}
	case 2, 3, 4:
		return api.Op{Kind: api.Start, A: k, B: m.now}
	case 5, 6, 7:
		return api.Op{Kind: api.Drain, A: k, B: min(last, m.now+r.IntN(4))}
	case 8:
		if seldom {
			return api.Op{Kind: api.Down, A: node}
		}
		return api.Op{Kind: api.Up, A: node, B: 1 + r.IntN(2)}
	case 9:
		return []api.Op{{Kind: api.Done, A: k}, {Kind: api.Unhold, A: k}, {Kind: api.Shrink, A: k, B: node}, {Kind: api.Cancel, A: k}, {Kind: api.Saved, A: k, B: 1}, {Kind: api.Evict, A: k}}[r.IntN(6)]
	case 10:
		return []api.Op{{Kind: api.Cordon, A: node}, {Kind: api.Uncordon, A: node}, {Kind: api.Move, A: node}}[r.IntN(3)]
	case 11, 12:
		return api.Op{Kind: api.Moved, A: node, B: 1 + r.IntN(2)}
	case 13:
		if seldom {
			return []api.Op{{Kind: api.Target, A: 1 + r.IntN(3)}, {Kind: api.Target, A: 1 + r.IntN(2)}, {Kind: api.Pause}, {Kind: api.Resume}, {Kind: api.Resume}, {Kind: api.Abort}}[r.IntN(6)]
		}
	case 14, 15, 16:
		return slowNext(m.c, m.s, m.now)
	}
	return someHold(r, m)
}

// someHold is one of free nodes, if there are any that do.
func someHold(r *rand.Rand, m moment) api.Op {
	for range 20 {
		o := api.Op{Kind: api.Hold, A: 1 + r.IntN(len(m.s.Jobs)+1), B: r.IntN(1 << m.c.Nodes)}
		if _, e := book.Apply(m.c, m.s, o); e == api.OK {
			return o
		}
	}
	return api.Op{Kind: api.Newterm}
}

// wantSlowOf holds a moment against the slow reading, and stops at the first fault.
func wantSlowOf(t *testing.T, m moment) {
	t.Helper()
	if wantSlow(t, m.c, m.s, m.now); t.Failed() {
		t.FailNow()
	}
}

// P18.1, P18.2: every three nodes of these sorts.
func TestEveryThree(t *testing.T) {
	n := 0
	threes(8, func(m moment) {
		wantSlowOf(t, m)
		n++
	})
	if n < 5000 {
		t.Error("too few states:", n)
	}
}

// P18.1, P18.2: six nodes of any sort.
func TestSix(t *testing.T) {
	n := 0
	sixes(60000, func(m moment) {
		wantSlowOf(t, m)
		n++
	})
	if n < 2000 {
		t.Error("too few states:", n)
	}
}

// marked is which sort of node one is: free, up with a job, cordoned, cordoned with a job, moving, down, down and cordoned.
func marked(n api.Node) int {
	switch {
	case !n.Up && n.Cordon:
		return 6
	case !n.Up:
		return 5
	case n.Moving:
		return 4
	case n.Cordon && n.Job != 0:
		return 3
	case n.Cordon:
		return 2
	case n.Job != 0:
		return 1
	}
	return 0
}

// tells is which of the three ways tell something: one bit each.
func tells(m moment) int {
	n := 0
	for i, o := range slowWays(m.c, m.s, m.now) {
		if o.Kind != 0 {
			n += 1 << i
		}
	}
	return n
}

// headed is which head the line has: none; one that gets nodes; one that gets none, and somebody fills in; one that gets none, and nobody does.
func headed(m moment) int {
	line := rank.Line(m.s)
	if len(line) == 0 {
		return 0
	}
	if _, ok := fit.Now(m.s, line[0]); ok {
		return 1
	}
	if slowStart(m.s, m.now).Kind != 0 {
		return 2
	}
	return 3
}

// P18.1, P18.2: states that ops lead to; they have nodes of each sort, jobs of each phase, each mode, drains that are late and that aren't, and each of the ways tells something beside each other one, or not.
func TestRuns(t *testing.T) {
	var phases [5]int
	var marks [7]int
	var modes [3]int
	var ways [8]int
	var lines [4]int
	var drains [3]int // of those that drain none, one or more are late
	runs(func(m moment) {
		wantSlowOf(t, m)
		for _, n := range m.s.Nodes {
			marks[marked(n)]++
		}
		for _, j := range m.s.Jobs {
			phases[j.Phase]++
		}
		modes[m.s.Mode]++
		ways[tells(m)]++
		lines[headed(m)]++
		if slices.ContainsFunc(m.s.Jobs, func(j api.Job) bool { return j.Phase == api.Draining }) {
			drains[min(2, len(slowLate(m.s, m.now)))]++
		}
	})
	for _, l := range [][]int{phases[:], marks[:], modes[:], ways[:], lines[:], drains[:]} {
		if slices.Min(l) < 50 {
			t.Error("too few of a sort:", phases, marks, modes, ways, lines, drains)
		}
	}
}

// P18.1, P18.2: the same states at other times, and of fleets with other numbers.
func TestRunsElse(t *testing.T) {
	r := rand.New(rand.NewPCG(2, 18))
	n := 0
	runs(func(m moment) {
		if n++; n%8 != 0 {
			return
		}
		for range 2 {
			m.now, m.c.Deadline, m.c.Wave = r.IntN(last+1), 1+r.IntN(60), 1+r.IntN(6)
			wantSlowOf(t, m)
			m.now = []int{0, 1, last - 1, last}[r.IntN(4)]
			for m.c.Quota = range 5 {
				if book.Right(m.c, m.s) {
					wantSlowOf(t, m)
				}
			}
			m.c.Quota = 4
		}
	})
}

// P18.2: runs in parts, of states that ops lead to.
func TestPartsOfRuns(t *testing.T) {
	n := 0
	runs(func(m moment) {
		if n++; n%9 == 0 {
			if wantParts(t, m.c, m.s, m.now); t.Failed() {
				t.FailNow()
			}
		}
	})
}

// P18.3.

// wantKind asks that an op is one of the plan's, and that it ends no job, and starts none.
func wantKind(t *testing.T, o api.Op, s, behind api.State) {
	t.Helper()
	if !slices.Contains([]int{api.Evict, api.Uncordon, api.Move, api.Unhold, api.Shrink, api.Drain, api.Cordon, api.Hold}, o.Kind) {
		t.Fatal("no op of the plan:", o)
	}
	for i, j := range s.Jobs {
		x := behind.Jobs[i]
		if (x.Phase == api.Ended) != (j.Phase == api.Ended) || x.Phase == api.Running && j.Phase != api.Running {
			t.Fatal("job", i+1, "ended or started by", ops.Text(o), "of", s)
		}
	}
}

// wantRest does the plan's ops one by one until there is none, and tells how many there were; each must be OK, and at rest no job is late, nothing is next of the wave, and the line is empty, unless its head gets no nodes.
func wantRest(t *testing.T, m moment) (n int) {
	t.Helper()
	s := m.s
	for ; ; n++ {
		o, ok := plan.Next(m.c, s, m.now)
		if !ok {
			break
		}
		if n == mostRest {
			t.Fatal("no rest:", m)
		}
		x := applied(t, m.c, s, o)
		wantKind(t, o, s, x)
		s = x
	}
	if x, l := plan.Run(m.c, m.s, m.now, math.MaxInt); len(l) != n || !same(x, s) {
		t.Fatal("rests behind", n, "not", told(l), m)
	}
	line := rank.Line(s)
	if len(line) != 0 {
		if nodes, ok := fit.Now(s, line[0]); ok {
			t.Fatal("at rest the head gets", nodes, s, "behind", m)
		}
	}
	if o, ok := wave.Next(m.c, s, m.now); ok || len(plan.Late(s, m.now)) != 0 || len(slowLate(s, m.now)) != 0 {
		t.Fatal("at rest:", ops.Text(o), plan.Late(s, m.now), s, "behind", m)
	}
	return n
}

// P18.3: in states of runs, at their time and at the last one.
func TestRest(t *testing.T) {
	var met [4]int // by how many ops: none, one, some, six and more
	runs(func(m moment) {
		n := wantRest(t, m)
		met[min(3, n, 2+n/6)]++
		m.now = last
		wantRest(t, m)
	})
	if slices.Min(met[:]) < 200 {
		t.Error("too few rests:", met)
	}
}

// P18.3: in every three nodes, and in six of any sort, in jobs that were held up to as often as the chapter says.
func TestRestEach(t *testing.T) {
	n := 0
	do := func(m moment) {
		for i := range m.s.Jobs {
			m.s.Jobs[i].Inc = last - 101
		}
		if wantRest(t, m) > 0 {
			n++
		}
	}
	threes(6, do)
	sixes(40000, do)
	if n < 4000 {
		t.Error("too few states:", n)
	}
}

// P18.3: with as many jobs as there may be, by waves of each size and quotas of each, at the beginning and at the end of time, where a drain is late at once.
func TestRestMany(t *testing.T) {
	for l := range each(nil, 3, 6, 5, 2) {
		c := fleet(6, l[2], 1+l[1])
		s := state("2 1 0 | u1:1 u1:2 u1:3 u1:4 u1:5 u1:6", slices.Repeat(jobs(queued(0, 1, 1, 5, 0)), 24)...)
		for i := range 6 {
			s.Jobs[i].Queue, s.Jobs[i].Phase, s.Jobs[i].Since = i%3, api.Running, 1
			if l[0] > i%3 && book.Drains(s, i%3) < l[2] {
				s.Jobs[i].Phase, s.Jobs[i].Until = api.Draining, 50
			}
		}
		if l[3] == 1 {
			s.Nodes[0].Cordon, s.Nodes[5].Version, s.Jobs[7].Pin, s.Jobs[8].Pin = true, 2, 2, 1
		}
		for _, at := range []int{0, 49, 50, last - 1, last} {
			wantRest(t, moment{c, right(t, c, s), at})
			wantSlowOf(t, moment{c, s, at})
		}
	}
	c := fleet(6, 4, 6)
	s := state("2 1 0 | uc1:1 u1:1 u1:1 u1:1 u1:1 u1:1", running(0, 5))
	if n := wantRest(t, moment{c, s, last}); n != 5+5+1+1+6 { // five nodes are cordoned, five shrunk, the last one's job is drained, and evicted, and all move
		t.Error("rests behind", n)
	}
}

// The rules that hold everywhere.

// someMoments are some of all sorts.
func someMoments(t *testing.T) []moment {
	c, s := busy()
	l := []moment{{c, s, now}, {c, s, 99}, {c, s, last}, {c, book.New(c), 0}}
	for _, x := range []api.State{
		state("2 1 0 | u1 uc1:1 u1:1 d1 dc2 m1", running(1, 5), queued(0, 1, 1, 5, 1)),
		state("2 1 1 | uc1:1 u1:2 u2 u3 u2 u2", running(1, 5), of(0, 1, 1, draining(4)), ended(), queued(0, 1, 3, 5, 0)),
		state("2 1 2 | uc1:1 u1:2 u2 u3 u2 uc2", held(5), held(5)),
		state("1 1 0 | u1 u1 u1:1 u1 u1 u1", draining(20), queued(9, 6, 6, 50, 0), queued(0, 1, 1, 7, 0), queued(3, 1, 2, 2, 0)),
		state("1 1 0 | u1 u1 u1 u1 u1 u1", inc(last, queued(9, 1, 1, 50, 0))),
	} {
		l = append(l, moment{c, right(t, c, x), 4}, moment{c, x, 20})
	}
	return l
}

// roomy is a state with spare room behind its lists, in which there are jobs and nodes too.
func roomy(s api.State) api.State {
	s.Jobs = append(slices.Clone(s.Jobs), draining(0), queued(9, 1, 1, 1, 0), held(1))[:len(s.Jobs)]
	s.Nodes = append(slices.Clone(s.Nodes), node("uc1"), node("u1"), node("m1"))[:len(s.Nodes)]
	return s
}

func whole[T any](l []T) []T { return l[:cap(l)] }

// Rule 4: a state that is handed in isn't changed, its spare room included, nor is what stands there asked for.
func TestHandedIn(t *testing.T) {
	for _, m := range someMoments(t) {
		m.s = roomy(m.s)
		jobs, nodes := slices.Clone(whole(m.s.Jobs)), slices.Clone(whole(m.s.Nodes))
		wantSlow(t, m.c, m.s, m.now)
		wantParts(t, m.c, m.s, m.now)
		if !slices.Equal(whole(m.s.Jobs), jobs) || !slices.Equal(whole(m.s.Nodes), nodes) {
			t.Error("changed:", m)
		}
	}
}

// spoil writes over all of a state's memory, spare room too.
func spoil(s api.State) {
	for i := range whole(s.Jobs) {
		whole(s.Jobs)[i] = api.Job{Phase: -1, Nodes: -1}
	}
	for i := range whole(s.Nodes) {
		whole(s.Nodes)[i] = api.Node{Version: -1, Job: -1}
	}
}

// Rule 4: what is answered is new memory, spare room and all: neither shares the state behind a run a row with that which was given, whether anything was done or not, nor two answers with each other.
func TestNewMemory(t *testing.T) {
	for _, m := range someMoments(t) {
		states, l := slowRun(m.c, m.s, m.now)
		late := slowLate(m.s, m.now)
		for _, most := range []int{-1, 0, 1, 2, len(l), mostRest} {
			n := min(max(0, most), len(l))
			given := roomy(m.s)
			a, done := plan.Run(m.c, given, m.now, most)
			b, again := plan.Run(m.c, given, m.now, most)
			x, y := plan.Late(given, m.now), plan.Late(given, m.now)
			spoil(a)
			for i := range whole(done) {
				whole(done)[i] = api.Op{Kind: -1}
			}
			for i := range whole(x) {
				whole(x)[i] = -1
			}
			if !same(given, m.s) {
				t.Error("shared with what was given:", m, most)
			}
			spoil(given)
			if !same(b, states[n]) || !slices.Equal(again, l[:n]) || !slices.Equal(y, late) {
				t.Error("shared:", m, most)
			}
		}
	}
}

// Rule 6: what is asked of a state that is changed where it stands is answered of it as it is.
func TestChangedInPlace(t *testing.T) {
	s := state("1 2 0 | u1:1 u1 u1 u1", draining(20), queued(0, 1, 1, 5, 0), queued(0, 1, 4, 5, 2))
	c := fleet(4, 1, 1)
	for i, x := range []struct {
		change func()
		now    int
		run    string
	}{
		{func() {}, 5, "hold 2 2"},
		{func() { s.Jobs[0].Until = 5 }, 5, "evict 1, hold 1 15"},
		{func() {}, 4, "hold 2 2"},
		{func() { s.Jobs[1].Prio = 1 }, 5, "evict 1, hold 2 1, hold 1 14"},
		{func() { s.Goal = 2 }, 4, "cordon 0, hold 2 2"},
		{func() { c.Wave = 2 }, 4, "cordon 0, cordon 1, move 1, hold 2 4"},
		{func() { s.Mode = api.Paused }, 4, "hold 2 2"},
		{func() { s.Mode = api.Aborted }, 4, "cordon 0, cordon 1, move 1, hold 2 4"}, // to version 2 too
		{func() { s.Prior = 1 }, 4, "hold 2 2"},
		{func() { s.Nodes[1].Cordon = true }, 4, "uncordon 1, hold 2 2"},
		{func() { s.Nodes[1].Up = false }, 4, "hold 2 4"},
		{func() { s.Jobs[1].Phase = api.Ended }, 4, nothing},
		{func() { s.Nodes[3].Version = 2 }, 4, "cordon 3, move 3"},
		{func() { s.Mode = api.Rolling }, 4, "cordon 0, hold 3 8"},
	} {
		x.change()
		right(t, c, s)
		l := list(t, x.run)
		wantRun(t, c, s, x.now, mostRest, applied(t, c, s, l...), l)
		if wantSlow(t, c, s, x.now); t.Failed() {
			t.Fatal("change", i)
		}
	}
}

// Rule 6: the same answers, whatever was asked between.
func TestSameAgain(t *testing.T) {
	for range 20 {
		for _, m := range someMoments(t) {
			wantSlow(t, m.c, m.s, m.now)
		}
	}
}

// Rule 3: nil and empty lists of jobs and nodes are one.
func TestNil(t *testing.T) {
	for _, s := range []api.State{{}, {Nodes: []api.Node{}}, {Jobs: []api.Job{}}, {Nodes: []api.Node{}, Jobs: []api.Job{}}} {
		wantLate(t, s, 5)
		wantNext(t, fleet(1, 1, 1), s, 5, nothing)
		wantRun(t, fleet(1, 1, 1), s, 5, 9, api.State{}, nil)
	}
	s := state("2 1 0 | uc1 u2")
	l := list(t, "move 0")
	for _, s.Jobs = range [][]api.Job{nil, {}} {
		wantLate(t, s, last)
		wantRun(t, fleet(2, 1, 1), s, 5, 9, applied(t, fleet(2, 1, 1), s, l...), l)
	}
}

// ends waits for calls, but not for long.
func ends(t *testing.T, calls func()) {
	t.Helper()
	done := make(chan struct{})
	go func() {
		defer close(done)
		calls()
	}()
	select {
	case <-done:
	case <-time.After(60 * time.Second):
		t.Fatal("calls that don't end")
	}
}

// Rule 1: each call ends, and none panics, not even of states that may not be, and times that are none, of which nothing else is promised.
func TestNoPanic(t *testing.T) {
	odd := []int{math.MinInt, -1, 0, 1, 5, 10, 63, math.MaxInt}
	var s api.State
	for i := range 40 {
		n := odd[i%8]
		s.Nodes = append(s.Nodes, api.Node{Up: i%7 != 0, Cordon: i%5 != 0, Moving: i%11 == 0, Version: odd[i%6], Job: odd[(i+3)%8]})
		s.Jobs = append(s.Jobs, api.Job{Queue: odd[i%3], Prio: n, Min: odd[i%7], Max: n, Work: odd[i%5], Pin: odd[i%5], Phase: i%7 - 1, Nodes: n, Since: odd[(i+3)%8], Until: odd[(i+5)%8]})
	}
	c, b := busy()
	ends(t, func() {
		for _, x := range []api.State{{}, s, b, {Nodes: s.Nodes}, {Jobs: s.Jobs}, {Nodes: s.Nodes[:7], Jobs: s.Jobs[:9], Mode: -1}, {Nodes: s.Nodes[:6], Jobs: s.Jobs[:5], Mode: api.Aborted, Prior: math.MinInt}} {
			for _, at := range odd {
				plan.Late(x, at)
				for _, k := range odd {
					for _, c := range []api.Conf{{}, c, fleet(1, 1, 1), {Nodes: k, Queues: k, Quota: k, Wave: k, Deadline: k}} {
						plan.Next(c, x, at)
						plan.Run(c, x, at, k)
					}
				}
			}
		}
	})
}
