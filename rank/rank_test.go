package rank_test

import (
	"math"
	"math/bits"
	"math/rand/v2"
	"slices"
	"testing"

	"dunnage/api"
	"dunnage/book"
	"dunnage/ops"
	"dunnage/rank"
)

// fleet is one of so many nodes, of three queues, with the greatest quota.
func fleet(nodes int) api.Conf {
	return api.Conf{Nodes: nodes, Queues: 3, Quota: 4, Wave: 2, Lease: 6, Retry: 2, Deadline: 9, Room: 500, Disk: 4000}
}

// after is the state behind one more op, told by its words.
func after(t *testing.T, c api.Conf, s api.State, words string) api.State {
	t.Helper()
	o, ok := ops.Parse(words)
	x, e := book.Apply(c, s, o)
	if !ok || e != api.OK {
		t.Fatal(words, ok, e)
	}
	return x
}

// behind is the state behind ops from the first state of six nodes on.
func behind(t *testing.T, l ...string) api.State {
	t.Helper()
	s := book.New(fleet(6))
	for _, words := range l {
		s = after(t, fleet(6), s, words)
	}
	return s
}

// ofPrios is a state of queued jobs of these priorities, the queues by turns.
func ofPrios(l ...int) api.State {
	s := book.New(fleet(6))
	for i, prio := range l {
		s.Jobs = append(s.Jobs, api.Job{Queue: i % 3, Prio: prio, Min: 1, Max: 1, Work: 1})
	}
	return s
}

// inPhase makes a job of the first six one of a phase; if it has a node then, that with the number below its own.
func inPhase(s *api.State, job, phase int) {
	j, n := &s.Jobs[job-1], &s.Nodes[job-1]
	j.Phase, j.Nodes, n.Job = phase, 0, 0
	if phase == api.Held || phase == api.Running || phase == api.Draining {
		j.Inc, j.Nodes, n.Job = 1, 1<<(job-1), job
	}
}

// A slow reading of the chapter's words, pair by pair.

func isOne(s api.State, job int) bool { return job > 0 && job <= len(s.Jobs) }

func slowAhead(s api.State, a, b int) bool {
	if !isOne(s, a) || !isOne(s, b) {
		return false
	}
	x, y := s.Jobs[a-1].Prio, s.Jobs[b-1].Prio
	return x > y || x == y && a < b
}

func slowPlace(s api.State, job int) int {
	if !isOne(s, job) || s.Jobs[job-1].Phase != 0 {
		return -1
	}
	n := 0
	for i, j := range s.Jobs {
		if j.Phase == 0 && slowAhead(s, i+1, job) {
			n++
		}
	}
	return n
}

// slowLine puts each job at the place that it has, as far as there are that many.
func slowLine(s api.State) []int {
	var l []int
	for place := range s.Jobs {
		for job := range len(s.Jobs) + 1 {
			if slowPlace(s, job) == place {
				l = append(l, job)
			}
		}
	}
	return l
}

func slowOf(s api.State, queue int) []int {
	var l []int
	for _, job := range slowLine(s) {
		if s.Jobs[job-1].Queue == queue {
			l = append(l, job)
		}
	}
	return l
}

// What is wanted.

// far are numbers of no jobs, nor of queues.
func far() []int {
	return []int{math.MinInt, math.MinInt + 1, -1 << 32, -api.MaxTime, -25, -24, -2, -1, api.MaxTime, 1<<32 + 1, math.MaxInt - 1, math.MaxInt}
}

// none are numbers of no jobs of a state.
func none(s api.State) []int {
	return append(far(), 0, len(s.Jobs)+1, len(s.Jobs)+2)
}

func wantLine(t *testing.T, s api.State, want ...int) {
	t.Helper()
	if l := rank.Line(s); !slices.Equal(l, want) {
		t.Error("line", l, "want", want, "of", s.Jobs)
	}
}

func wantOf(t *testing.T, s api.State, queue int, want ...int) {
	t.Helper()
	if l := rank.Of(s, queue); !slices.Equal(l, want) {
		t.Error("of the queue", queue, l, "want", want, "of", s.Jobs)
	}
}

func wantPlace(t *testing.T, s api.State, job, want int) {
	t.Helper()
	if n := rank.Place(s, job); n != want {
		t.Error("place of", job, n, "want", want, "of", s.Jobs)
	}
}

func wantAhead(t *testing.T, s api.State, a, b int, want bool) {
	t.Helper()
	if rank.Ahead(s, a, b) != want {
		t.Error(a, "ahead of", b, !want, "of", s.Jobs)
	}
}

// wantSlow holds all calls against the slow reading, of a state that may be.
func wantSlow(t *testing.T, c api.Conf, s api.State) {
	t.Helper()
	if !book.Right(c, s) {
		t.Fatal("no state that may be:", s)
	}
	wantLine(t, s, slowLine(s)...)
	for queue := -1; queue <= 4; queue++ {
		wantOf(t, s, queue, slowOf(s, queue)...)
	}
	for a := -1; a <= len(s.Jobs)+1; a++ {
		wantPlace(t, s, a, slowPlace(s, a))
		for b := -1; b <= len(s.Jobs)+1; b++ {
			wantAhead(t, s, a, b, slowAhead(s, a, b))
		}
	}
}

// P14.1, P14.2: written out.

// P14.1: the chapter's example.
func TestExample(t *testing.T) {
	s := behind(t, "submit 0 1 1 1 1 0", "submit 0 5 1 1 1 0", "submit 0 5 1 1 1 0")
	wantLine(t, s, 2, 3, 1)
	wantOf(t, s, 0, 2, 3, 1)
	for place, job := range []int{2, 3, 1} {
		wantPlace(t, s, job, place)
	}
}

// mixed is a state of seven queued jobs, and of others: job 2 is Held, job 4 Running, job 7 Draining, job 9 Ended.
func mixed(t *testing.T) api.State {
	return behind(t,
		"submit 0 3 1 1 5 0", "submit 1 9 1 1 5 0", "submit 1 0 1 2 5 0", "submit 0 3 1 1 5 0",
		"submit 1 3 1 1 5 2", "submit 0 9 6 6 9 0", "submit 1 5 1 1 5 0", "submit 0 0 1 1 5 0",
		"submit 1 5 1 1 5 0", "submit 1 9 1 1 1 0", "submit 0 4 1 1 5 0",
		"hold 2 1", "hold 4 2", "start 4 0", "hold 7 4", "start 7 0", "drain 7 9", "cancel 9")
}

// P14.1: the line, and queues' parts of it.
func TestLine(t *testing.T) {
	s := mixed(t)
	wantLine(t, s, 6, 10, 11, 1, 5, 3, 8)
	wantOf(t, s, 0, 6, 11, 1, 8)
	wantOf(t, s, 1, 10, 5, 3)
	wantOf(t, s, 2)
	for _, queue := range append(far(), 3, 4, 24, 64, 256, 257, 1<<32) {
		wantOf(t, s, queue)
	}
}

// P14.2: places of jobs of each phase, and of what is none.
func TestPlace(t *testing.T) {
	s := mixed(t)
	for i, want := range []int{3, -1, 5, -1, 4, 0, -1, 6, -1, 1, 2} {
		wantPlace(t, s, i+1, want)
	}
	for _, job := range none(s) {
		wantPlace(t, s, job, -1)
	}
}

// P14.1: Ahead asks for the priority first, then for the number, of jobs of any phase and queue.
func TestAhead(t *testing.T) {
	s := mixed(t)
	order := []int{2, 6, 10, 7, 9, 11, 1, 4, 5, 3, 8}
	for i, a := range order {
		for k, b := range order {
			wantAhead(t, s, a, b, i < k)
		}
	}
}

// P14.1: no job is ahead of what is none, nor that of a job, nor of itself.
func TestAheadOfNone(t *testing.T) {
	for _, s := range []api.State{mixed(t), ofPrios(), ofPrios(9), ofPrios(0), ofPrios(0, 9)} {
		for _, a := range none(s) {
			for job := range len(s.Jobs) + 1 {
				wantAhead(t, s, a, job, false)
				wantAhead(t, s, job, a, false)
			}
			for _, b := range none(s) {
				wantAhead(t, s, a, b, false)
			}
		}
	}
}

// P14.1, P14.2: states without jobs, of one, of a line of none, of one, of all.
func TestFew(t *testing.T) {
	for _, s := range []api.State{{}, book.New(fleet(1)), book.New(fleet(6))} {
		for _, jobs := range [][]api.Job{nil, {}, make([]api.Job, 0, 5)} {
			s.Jobs = jobs
			wantLine(t, s)
			for queue := -1; queue <= 3; queue++ {
				wantOf(t, s, queue)
			}
			for _, n := range none(s) {
				wantPlace(t, s, n, -1)
				wantAhead(t, s, n, 1, false)
			}
		}
	}
	s := ofPrios(7)
	wantLine(t, s, 1)
	wantOf(t, s, 0, 1)
	wantOf(t, s, 1)
	wantPlace(t, s, 1, 0)
	wantAhead(t, s, 1, 1, false)
	for phase := api.Held; phase <= api.Ended; phase++ {
		s := ofPrios(3, 7, 3)
		for job := 1; job <= 3; job++ {
			inPhase(&s, job, phase)
			wantPlace(t, s, job, -1)
		}
		wantLine(t, s)
		wantOf(t, s, 1)
		inPhase(&s, 2, api.Queued)
		wantLine(t, s, 2)
		wantOf(t, s, 1, 2)
		wantOf(t, s, 0)
		wantPlace(t, s, 2, 0)
		wantPlace(t, s, 3, -1)
		wantAhead(t, s, 3, 1, false)
		wantAhead(t, s, 1, 3, true)
	}
}

// counted are the numbers from 1 to n.
func counted(n int) []int {
	var l []int
	for i := range n {
		l = append(l, i+1)
	}
	return l
}

// P14.1, P14.2: as many jobs as there may be, of one priority, and of such as rise and fall with the numbers.
func TestMany(t *testing.T) {
	rising := func(i int) int { return 10 * i / api.MaxJobs }
	for _, x := range []struct {
		prio func(i int) int
		line []int
	}{
		{func(int) int { return 0 }, counted(24)},
		{func(int) int { return 9 }, counted(24)},
		{func(i int) int { return 9 - rising(i) }, counted(24)},
		{rising, []int{23, 24, 21, 22, 18, 19, 20, 16, 17, 13, 14, 15, 11, 12, 9, 10, 6, 7, 8, 4, 5, 1, 2, 3}},
		{func(i int) int { return 9 * (i % 2) }, []int{2, 4, 6, 8, 10, 12, 14, 16, 18, 20, 22, 24, 1, 3, 5, 7, 9, 11, 13, 15, 17, 19, 21, 23}},
		{func(i int) int { return i % 10 }, []int{10, 20, 9, 19, 8, 18, 7, 17, 6, 16, 5, 15, 4, 14, 24, 3, 13, 23, 2, 12, 22, 1, 11, 21}},
	} {
		var prios []int
		for i := range api.MaxJobs {
			prios = append(prios, x.prio(i))
		}
		s := ofPrios(prios...)
		wantLine(t, s, x.line...)
		for place, job := range x.line {
			wantPlace(t, s, job, place)
			for k, b := range x.line {
				wantAhead(t, s, job, b, place < k)
			}
		}
		for queue := range 3 {
			wantOf(t, s, queue, slices.DeleteFunc(slices.Clone(x.line), func(job int) bool { return (job-1)%3 != queue })...)
		}
		wantSlow(t, fleet(6), s)
	}
}

// P14.1, P14.2: nothing but the priority, the number, the phase and the queue counts.
func TestOtherNumbers(t *testing.T) {
	for i, x := range []func(j *api.Job){
		func(j *api.Job) { j.Min, j.Max = 6, 6 },
		func(j *api.Job) { j.Max = 6 },
		func(j *api.Job) { j.Work = 1000 },
		func(j *api.Job) { j.Pin = 9 },
		func(j *api.Job) { j.Inc = api.MaxTime },
		func(j *api.Job) { j.Inc, j.Epoch = api.MaxTime, api.MaxTime },
		func(j *api.Job) { j.Since = api.MaxTime },
		func(j *api.Job) { j.Until = api.MaxTime },
		func(j *api.Job) { j.Queue = 2 },
	} {
		for job := 1; job <= 4; job++ {
			s := ofPrios(2, 4, 4, 2)
			x(&s.Jobs[job-1])
			wantLine(t, s, 2, 3, 1, 4)
			wantPlace(t, s, job, []int{2, 0, 1, 3}[job-1])
			if wantSlow(t, fleet(6), s); t.Failed() {
				t.Fatal("number", i)
			}
		}
	}
	for mode := api.Rolling; mode <= api.Aborted; mode++ {
		s := ofPrios(2, 4, 4, 2)
		s.Mode, s.Goal, s.Prior, s.Term = mode, 9, 8, api.MaxTime
		for i := range s.Nodes {
			s.Nodes[i] = api.Node{Version: 7}
		}
		wantLine(t, s, 2, 3, 1, 4)
		wantSlow(t, fleet(6), s)
	}
}

// P14.1, P14.2: by a slow reading.

// each hands on all rows of the numbers l and one more below each of most, all in the same memory.
func each(l []int, most ...int) func(yield func([]int) bool) {
	return func(yield func([]int) bool) {
		if len(most) == 0 {
			yield(l)
			return
		}
		for n := range most[0] {
			for x := range each(append(l, n), most[1:]...) {
				if !yield(x) {
					return
				}
			}
		}
	}
}

// P14.1, P14.2: every state of three jobs, of four priorities, of each phase, of two queues.
func TestEveryThree(t *testing.T) {
	prios := []int{0, 1, 8, 9}
	for l := range each(nil, 4, 5, 2, 4, 5, 2, 4, 5, 2) {
		s := ofPrios(prios[l[0]], prios[l[3]], prios[l[6]])
		for i := range 3 {
			s.Jobs[i].Queue = l[3*i+2]
			inPhase(&s, i+1, l[3*i+1])
		}
		if wantSlow(t, fleet(6), s); t.Failed() {
			t.FailNow()
		}
	}
}

// P14.1, P14.2: every line of up to five jobs of any of five priorities, all of them queued, or one of them not.
func TestEveryLine(t *testing.T) {
	prios := []int{0, 1, 4, 8, 9}
	for _, most := range [][]int{{}, {5}, {5, 5}, {5, 5, 5}, {5, 5, 5, 5}, {5, 5, 5, 5, 5}} {
		for l := range each(nil, append(most, len(most)+1)...) {
			s := ofPrios(l[:len(most)]...)
			for i := range s.Jobs {
				s.Jobs[i].Prio = prios[s.Jobs[i].Prio]
			}
			if out := l[len(most)]; out > 0 {
				inPhase(&s, out, api.Running)
			}
			if wantSlow(t, fleet(6), s); t.Failed() {
				t.FailNow()
			}
		}
	}
}

// runs hands on the states of runs of ops; ops that end jobs, or make a node fail, come seldom.
func runs(each func(c api.Conf, s api.State)) {
	r := rand.New(rand.NewPCG(1, 14))
	for run := range 40 {
		c := fleet([]int{1, 6, 6, 1 + r.IntN(6)}[run%4])
		s := book.New(c)
		each(c, s)
		prios := 1 + r.IntN(10)
		for range 400 {
			if x, e := book.Apply(c, s, someOp(r, c, s, prios)); e == api.OK {
				s = x
				each(c, s)
			}
		}
	}
}

// someOp is one that can mostly be done at some time; priorities are below most.
func someOp(r *rand.Rand, c api.Conf, s api.State, most int) api.Op {
	job, node := 1+r.IntN(len(s.Jobs)+1), r.IntN(c.Nodes)
	seldom := r.IntN(8) == 0
	switch r.IntN(12) {
	case 0:
		return api.Op{Kind: api.Submit, A: r.IntN(3), B: r.IntN(most), C: 1, D: 1 + r.IntN(c.Nodes), E: 1 + r.IntN(1000)}
	case 1:
		return api.Op{Kind: api.Start, A: job, B: r.IntN(50)}
	case 2:
		return api.Op{Kind: api.Drain, A: job, B: r.IntN(50)}
	case 3:
		return api.Op{Kind: api.Evict, A: job}
	case 4:
		return api.Op{Kind: api.Unhold, A: job}
	case 5:
		return api.Op{Kind: api.Up, A: node, B: 1 + r.IntN(2)}
	case 6:
		if seldom {
			return api.Op{Kind: api.Down, A: node}
		}
	case 7:
		if seldom {
			return api.Op{Kind: api.Done - r.IntN(2)*(api.Done-api.Cancel), A: job}
		}
	}
	return someHold(r, c, s)
}

// someHold is one of free nodes, if there are any that do.
func someHold(r *rand.Rand, c api.Conf, s api.State) api.Op {
	for range 20 {
		o := api.Op{Kind: api.Hold, A: 1 + r.IntN(len(s.Jobs)+1), B: r.IntN(1 << c.Nodes)}
		if _, e := book.Apply(c, s, o); e == api.OK {
			return o
		}
	}
	return api.Op{Kind: api.Newterm}
}

// P14.1, P14.2: states that ops lead to; they have jobs of each phase and queue, and lines of none, of one, and of all.
func TestRuns(t *testing.T) {
	var met [3][5]int
	var lengths [api.MaxJobs + 1]int
	all := 0
	runs(func(c api.Conf, s api.State) {
		if wantSlow(t, c, s); t.Failed() {
			t.FailNow()
		}
		for _, j := range s.Jobs {
			met[j.Queue][j.Phase]++
		}
		n := len(slowLine(s))
		lengths[n]++
		if n > 1 && n == len(s.Jobs) {
			all++
		}
	})
	for _, l := range met {
		if slices.Min(l[:]) < 50 {
			t.Error("too few jobs of a queue and a phase:", met)
		}
	}
	if slices.Min(lengths[:18]) < 20 || all < 20 {
		t.Error("too few lines of a length:", lengths, all)
	}
}

// P14.3.

// P14.3: of two jobs just one comes ahead, and who comes ahead of one comes ahead of those behind it.
func wantOneAhead(t *testing.T, s api.State) {
	t.Helper()
	for a := 1; a <= len(s.Jobs); a++ {
		for b := 1; b <= len(s.Jobs); b++ {
			if a != b && rank.Ahead(s, a, b) == rank.Ahead(s, b, a) {
				t.Error("both, or none, of", a, b, s.Jobs)
			}
			for k := 1; k <= len(s.Jobs); k++ {
				if rank.Ahead(s, a, b) && rank.Ahead(s, b, k) && !rank.Ahead(s, a, k) {
					t.Error("round about:", a, b, k, s.Jobs)
				}
			}
		}
	}
}

// wantPlaces holds the line against the places of its jobs, and Ahead.
func wantPlaces(t *testing.T, s api.State) {
	t.Helper()
	l := rank.Line(s)
	for i, job := range l {
		wantPlace(t, s, job, i)
		for k := range i {
			wantAhead(t, s, l[k], job, true)
		}
	}
	queued := 0
	for i, j := range s.Jobs {
		if j.Phase == api.Queued {
			queued++
		}
		if slices.Contains(l, i+1) != (j.Phase == api.Queued) {
			t.Error("in the line, or not:", i+1, l, s.Jobs)
		}
	}
	if len(l) != queued {
		t.Error("a line of", len(l), "want", queued)
	}
}

// P14.3: Of two jobs just one comes ahead of the other one; the line goes by that.
func TestOneAhead(t *testing.T) {
	wantOneAhead(t, mixed(t))
	wantPlaces(t, mixed(t))
	n := 0
	runs(func(_ api.Conf, s api.State) {
		if n++; n%20 == 0 {
			wantOneAhead(t, s)
		}
		wantPlaces(t, s)
	})
}

// P14.3: a job that goes through something has the place behind it that it had, with others ahead of it and behind it.
func TestPlaceStays(t *testing.T) {
	first := behind(t, "submit 0 5 1 3 9 0", "submit 1 9 1 3 9 0", "submit 0 5 1 3 9 0", "submit 1 0 1 3 9 0", "submit 0 5 1 3 9 0", "submit 0 9 1 3 9 0", "submit 2 0 1 3 9 0")
	line := []int{2, 6, 1, 3, 5, 4, 7}
	wantLine(t, first, line...)
	for _, way := range [][]string{
		{"hold J 6", "unhold J"},
		{"hold J 6", "start J 3", "drain J 9", "evict J"},
		{"hold J 6", "start J 3", "saved J 1", "drain J 9", "evict J"},
		{"hold J 6", "start J 3", "shrink J 1", "drain J 9", "evict J"},
		{"hold J 6", "down 2"},
		{"hold J 6", "start J 3", "down 1"},
		{"hold J 6", "start J 3", "drain J 9", "down 1"},
		{"hold J 6", "start J 3", "drain J 9", "saved J 1", "down 2", "up 2 1", "hold J 4", "unhold J"},
		{"hold J 6", "down 2", "hold J 8", "start J 7", "down 3", "up 2 2", "hold J 4", "start J 8", "drain J 9", "evict J"},
	} {
		for place, job := range line {
			s := first
			others := slices.Delete(slices.Clone(line), place, place+1)
			for _, words := range way {
				s = after(t, fleet(6), s, named(words, job))
				if s.Jobs[job-1].Phase == api.Queued {
					wantLine(t, s, line...)
					wantPlace(t, s, job, place)
					continue
				}
				wantLine(t, s, others...)
				wantPlace(t, s, job, -1)
				for i, other := range others {
					wantPlace(t, s, other, i)
				}
			}
			if s.Jobs[job-1].Phase != api.Queued {
				t.Error("isn't queued behind", way)
			}
		}
	}
}

// named are an op's words with a job's number, of one digit, for J.
func named(words string, job int) string {
	b := []byte(words)
	for i := range b {
		if b[i] == 'J' {
			b[i] = byte('0' + job)
		}
	}
	return string(b)
}

// P14.3: what comes and goes meanwhile counts, each by its priority and number.
func TestOthersComeAndGo(t *testing.T) {
	s := behind(t, "submit 0 5 1 1 9 0", "submit 0 5 1 1 9 0", "submit 0 5 1 1 9 0", "hold 2 1")
	wantLine(t, s, 1, 3)
	for _, x := range []struct {
		words string
		line  []int
		place int // of job 2, once it is let go
	}{
		{"submit 1 5 1 1 9 0", []int{1, 3, 4}, 1},
		{"submit 0 4 1 1 9 0", []int{1, 3, 4, 5}, 1},
		{"submit 2 6 1 1 9 0", []int{6, 1, 3, 4, 5}, 2},
		{"hold 1 2", []int{6, 3, 4, 5}, 1},
		{"cancel 3", []int{6, 4, 5}, 1},
		{"cancel 6", []int{4, 5}, 0},
		{"start 1 5", []int{4, 5}, 0},
		{"down 1", []int{1, 4, 5}, 1},
	} {
		s = after(t, fleet(6), s, x.words)
		wantLine(t, s, x.line...)
		wantPlace(t, s, 2, -1)
		back := after(t, fleet(6), s, "unhold 2")
		wantLine(t, back, slices.Insert(slices.Clone(x.line), x.place, 2)...)
		wantPlace(t, back, 2, x.place)
	}
}

// someFree are the first nodes by which a job can be held.
func someFree(c api.Conf, s api.State, job int) (int, bool) {
	for set := range 1 << c.Nodes {
		if _, e := book.Apply(c, s, api.Op{Kind: api.Hold, A: job, B: set}); e == api.OK {
			return set, true
		}
	}
	return 0, false
}

// P14.3: the same of each job that can be held, in states of runs.
func TestPlaceStaysInRuns(t *testing.T) {
	n, again := 0, [3]int{}
	runs(func(c api.Conf, s api.State) {
		if n++; n%15 != 0 {
			return
		}
		line := rank.Line(s)
		for place, job := range line {
			set, ok := someFree(c, s, job)
			if !ok {
				continue
			}
			for i, way := range [][]api.Op{
				{{Kind: api.Unhold, A: job}},
				{{Kind: api.Start, A: job, B: 7}, {Kind: api.Drain, A: job, B: 9}, {Kind: api.Evict, A: job}},
				{{Kind: api.Start, A: job, B: 7}, {Kind: api.Down, A: bits.TrailingZeros(uint(set))}},
			} {
				x, e := book.Apply(c, s, api.Op{Kind: api.Hold, A: job, B: set})
				for _, o := range way {
					if e == api.OK {
						wantPlace(t, x, job, -1)
						x, e = book.Apply(c, x, o)
					}
				}
				if e == api.OK {
					again[i]++
					wantPlace(t, x, job, place)
					wantLine(t, x, line...)
				}
			}
		}
	})
	if slices.Min(again[:]) < 1000 {
		t.Error("too few came back:", again)
	}
}

// The rules that hold everywhere.

// roomy is a state with spare room behind its lists, in which there are jobs and nodes too.
func roomy(s api.State) api.State {
	job := api.Job{Prio: 9, Min: 1, Max: 1, Work: 1}
	s.Jobs = append(slices.Clone(s.Jobs), job, job, job)[:len(s.Jobs)]
	node := api.Node{Up: true, Version: 1}
	s.Nodes = append(slices.Clone(s.Nodes), node, node, node)[:len(s.Nodes)]
	return s
}

func whole[T any](l []T) []T { return l[:cap(l)] }

// fill writes over all of a list, its spare room too.
func fill[T any](l []T, x T) {
	for i := range whole(l) {
		whole(l)[i] = x
	}
}

// Rule 4: a state that is handed in isn't changed, its spare room included, nor is what stands there asked for.
func TestHandedIn(t *testing.T) {
	for _, first := range []api.State{mixed(t), ofPrios(), ofPrios(1), ofPrios(0, 9, 5, 9)} {
		s := roomy(first)
		jobs, nodes := slices.Clone(whole(s.Jobs)), slices.Clone(whole(s.Nodes))
		wantSlow(t, fleet(6), s)
		for i := range 3 {
			wantPlace(t, s, len(s.Jobs)+1+i, -1)
			wantAhead(t, s, len(s.Jobs)+1+i, 1, false)
		}
		if !slices.Equal(whole(s.Jobs), jobs) || !slices.Equal(whole(s.Nodes), nodes) {
			t.Error("changed:", s)
		}
	}
}

// Rule 4: a line that its owner changes changes no other answer, nor the state.
func TestLineChanged(t *testing.T) {
	s := mixed(t)
	jobs := slices.Clone(s.Jobs)
	calls := []func() []int{
		func() []int { return rank.Line(s) },
		func() []int { return rank.Of(s, 0) },
		func() []int { return rank.Of(s, 1) },
	}
	wants := [][]int{{6, 10, 11, 1, 5, 3, 8}, {6, 11, 1, 8}, {10, 5, 3}}
	for i, change := range calls {
		for k, keep := range calls {
			kept, changed := keep(), change()
			fill(changed, 77)
			_ = append(changed, 78, 79)
			fill(append(change()[:1], 80), 81)
			if !slices.Equal(kept, wants[k]) || !slices.Equal(keep(), wants[k]) {
				t.Error("the call", k, "behind a change of what the call", i, "answered:", kept, keep())
			}
		}
	}
	if !slices.Equal(s.Jobs, jobs) {
		t.Error("state changed:", s.Jobs)
	}
	wantSlow(t, fleet(6), s)
}

// Rules 4 and 6: a state whose jobs are changed behind a call changes nothing of its answer, and what is asked then is answered of the new ones.
func TestStateChanged(t *testing.T) {
	s := roomy(ofPrios(1, 5, 5, 9))
	line, of := rank.Line(s), rank.Of(s, 0)
	for i, prio := range []int{5, 0, 9, 9} {
		s.Jobs[i].Prio, s.Jobs[i].Queue = prio, i%2
	}
	inPhase(&s, 4, api.Running)
	again, ofAgain := rank.Line(s), rank.Of(s, 0)
	wantPlace(t, s, 1, 1)
	fill(s.Nodes, api.Node{Up: true, Version: 1})
	fill(s.Jobs, api.Job{Queue: 2, Prio: 3, Min: 1, Max: 1, Work: 1, Phase: api.Ended})
	for i, x := range []struct{ got, want []int }{
		{line, []int{4, 2, 3, 1}}, {of, []int{4, 1}}, {again, []int{3, 1, 2}}, {ofAgain, []int{3, 1}},
		{rank.Line(s), nil}, {rank.Of(s, 2), nil},
	} {
		if !slices.Equal(x.got, x.want) {
			t.Error(i, x.got, "want", x.want)
		}
	}
}

// Rule 6: what is asked of jobs that are changed where they stand, as many of them queued as were, is answered of them as they are.
func TestChangedInPlace(t *testing.T) {
	s := ofPrios(1, 5, 5, 9)
	for i, x := range []struct {
		job, prio, queue int
		line, of         []int
	}{
		{1, 7, 0, []int{4, 1, 2, 3}, []int{4, 1}},
		{4, 0, 1, []int{1, 2, 3, 4}, []int{1}},
		{3, 9, 0, []int{3, 1, 2, 4}, []int{3, 1}},
		{2, 9, 0, []int{2, 3, 1, 4}, []int{2, 3, 1}},
	} {
		s.Jobs[x.job-1].Prio, s.Jobs[x.job-1].Queue = x.prio, x.queue
		wantLine(t, s, x.line...)
		wantOf(t, s, 0, x.of...)
		wantPlace(t, s, x.job, slices.Index(x.line, x.job))
		wantAhead(t, s, x.line[0], x.line[1], true)
		if wantSlow(t, fleet(6), s); t.Failed() {
			t.Fatal("change", i)
		}
	}
}

// Rule 6: the same answers, whatever was asked between.
func TestSameAgain(t *testing.T) {
	for range 3 {
		for _, s := range []api.State{mixed(t), ofPrios(), ofPrios(3), ofPrios(1, 2, 1, 2, 9, 0)} {
			wantLine(t, s, slowLine(s)...)
			wantOf(t, s, 1, slowOf(s, 1)...)
			wantPlace(t, s, 1, slowPlace(s, 1))
			wantAhead(t, s, 1, 2, slowAhead(s, 1, 2))
		}
	}
}

// Rule 1: no call panics, not even of states that may not be, of which nothing else is promised.
func TestNoPanic(t *testing.T) {
	odd := []int{math.MinInt, -1, 0, 1, 5, 10, math.MaxInt}
	var s api.State
	for i := range 7 * api.MaxJobs {
		s.Jobs = append(s.Jobs, api.Job{Prio: odd[i%7], Queue: odd[i%5], Phase: odd[i%3], Nodes: odd[i%4]})
	}
	for _, x := range []api.State{s, {Jobs: s.Jobs[:1]}, {Nodes: make([]api.Node, 7)}} {
		rank.Line(x)
		for _, a := range append(none(x), odd...) {
			rank.Of(x, a)
			rank.Place(x, a)
			for _, b := range append(none(x), odd...) {
				rank.Ahead(x, a, b)
			}
		}
	}
}
