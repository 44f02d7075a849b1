package wave_test

import (
	"math"
	"math/rand/v2"
	"slices"
	"strconv"
	"strings"
	"testing"
	"time"

	"dunnage/api"
	"dunnage/book"
	"dunnage/ops"
	"dunnage/wave"
)

const (
	nothing = "" // instead of an op's words, where nothing is next
	last    = api.MaxTime
)

// far are numbers of no nodes.
var far = []int{math.MinInt, math.MinInt + 1, -1 << 32, -last, -7, -6, -2, -1, 6, 7, 63, 64, 1 << 32, last, math.MaxInt - 1, math.MaxInt}

// fleet is one of so many nodes, of three queues, with the deadline 9.
func fleet(nodes, quota, wave int) api.Conf {
	return api.Conf{Nodes: nodes, Queues: 3, Quota: quota, Wave: wave, Lease: 6, Retry: 2, Deadline: 9, Room: 500, Disk: 4000}
}

// job is one of a phase, that may have least nodes or more, of a version (0: any); which it has, state says.
func job(phase, least, pin int) api.Job {
	return api.Job{Min: least, Work: 5, Pin: pin, Phase: phase, Inc: 1}
}

func held(least, pin int) api.Job     { return job(api.Held, least, pin) }
func running(least, pin int) api.Job  { return job(api.Running, least, pin) }
func draining(least, pin int) api.Job { return job(api.Draining, least, pin) }

// in is a job of another queue than 0.
func in(queue int, j api.Job) api.Job {
	j.Queue = queue
	return j
}

// state is that of a text (goal, prior and mode; behind a bar the nodes), with these jobs, each of which may have all nodes; those that have none, and aren't Ended, wait.
func state(text string, jobs ...api.Job) api.State {
	head, tail, _ := strings.Cut(text, "|")
	l := strings.Fields(head)
	s := api.State{Goal: number(l[0]), Prior: number(l[1]), Mode: number(l[2]), Jobs: slices.Clone(jobs)}
	for i, word := range strings.Fields(tail) {
		n := node(word)
		s.Nodes = append(s.Nodes, n)
		if n.Job > 0 {
			s.Jobs[n.Job-1].Nodes |= 1 << i
		}
	}
	for i := range s.Jobs {
		j := &s.Jobs[i]
		if j.Max = len(s.Nodes); j.Nodes == 0 && j.Phase != api.Ended {
			j.Phase = api.Queued
		}
	}
	return s
}

// node is that of a word: u for up, d for down, c for cordoned, m for moving (so up and cordoned); its version; its job behind a colon.
func node(word string) api.Node {
	marks, job, has := strings.Cut(word, ":")
	n := api.Node{
		Up:      strings.ContainsAny(marks, "um"),
		Cordon:  strings.ContainsAny(marks, "cm"),
		Moving:  strings.Contains(marks, "m"),
		Version: number(strings.TrimLeft(marks, "udcm")),
	}
	if has {
		n.Job = number(job)
	}
	return n
}

func number(word string) int {
	n, e := strconv.Atoi(word)
	if e != nil {
		panic(word)
	}
	return n
}

// right is a state, which may be of the fleet.
func right(t *testing.T, c api.Conf, s api.State) api.State {
	t.Helper()
	if !book.Right(c, s) {
		t.Fatal("no state that may be:", c, s)
	}
	return s
}

// op is that of words; a zero one of nothing.
func op(t *testing.T, words string) api.Op {
	t.Helper()
	o, ok := ops.Parse(words)
	if !ok && words != nothing {
		t.Fatal("no op:", words)
	}
	return o
}

// applied is the state behind an op, which must be OK.
func applied(t *testing.T, c api.Conf, s api.State, o api.Op) api.State {
	t.Helper()
	x, e := book.Apply(c, s, o)
	if e != api.OK {
		t.Fatal(ops.Text(o), e, "of", c, s)
	}
	return x
}

// behind is the state behind ops from the first state on.
func behind(t *testing.T, c api.Conf, l ...string) api.State {
	t.Helper()
	s := book.New(c)
	for _, words := range l {
		s = applied(t, c, s, op(t, words))
	}
	return s
}

// A slow reading of the chapter's words, node by node, way by way.

func slowMeant(s api.State) int {
	if s.Mode == 2 {
		return s.Prior
	}
	return s.Goal
}

func slowIsBehind(s api.State, node int) bool {
	n := s.Nodes[node]
	return n.Up && !n.Moving && n.Version != slowMeant(s)
}

func slowBehind(s api.State) []int {
	l := []int{}
	for i := range s.Nodes {
		if slowIsBehind(s, i) {
			l = append(l, i)
		}
	}
	return l
}

// slowAlone asks each job whether it has the node.
func slowAlone(s api.State, node int) bool {
	for _, j := range s.Jobs {
		if node >= 0 && node < 6 && j.Nodes&(1<<node) != 0 && j.Pin != 0 && j.Pin != slowMeant(s) {
			return true
		}
	}
	return false
}

func slowWave(s api.State) int {
	n := 0
	for _, x := range s.Nodes {
		if x.Cordon {
			n++
		}
	}
	return n
}

func slowDone(s api.State) bool {
	for i, n := range s.Nodes {
		if n.Moving || n.Up && slowIsBehind(s, i) && !slowAlone(s, i) {
			return false
		}
	}
	return true
}

// slowCount is how many nodes a set has.
func slowCount(set int) int {
	n := 0
	for ; set > 0; set /= 2 {
		n += set % 2
	}
	return n
}

func slowDrains(s api.State, queue int) int {
	n := 0
	for _, j := range s.Jobs {
		if j.Phase == 3 && j.Queue == queue {
			n++
		}
	}
	return n
}

// slowTakes is what is done of a node that is behind, cordoned, and not left alone; nothing of one whose job is to be waited for.
func slowTakes(c api.Conf, s api.State, now, node int) api.Op {
	k := s.Nodes[node].Job
	if k == 0 {
		return api.Op{Kind: api.Move, A: node}
	}
	j := s.Jobs[k-1]
	if j.Phase == 1 {
		return api.Op{Kind: api.Unhold, A: k}
	}
	if j.Phase == 2 && slowCount(j.Nodes) > j.Min {
		return api.Op{Kind: api.Shrink, A: k, B: node}
	}
	if j.Phase == 2 && slowDrains(s, j.Queue) != c.Quota {
		return api.Op{Kind: api.Drain, A: k, B: min(1000000, now+c.Deadline)}
	}
	return api.Op{}
}

// slowWays is what may be next of a node, by each of the three ways; zero ops where there is nothing.
func slowWays(c api.Conf, s api.State, now, node int) (l [3]api.Op) {
	n, isBehind, alone := s.Nodes[node], slowIsBehind(s, node), slowAlone(s, node)
	if n.Cordon && n.Up && !n.Moving && (!isBehind || alone) {
		l[0] = api.Op{Kind: api.Uncordon, A: node}
	}
	if isBehind && n.Cordon && !alone {
		l[1] = slowTakes(c, s, now, node)
	}
	if isBehind && !n.Cordon && !alone && slowWave(s) < c.Wave {
		l[2] = api.Op{Kind: api.Cordon, A: node}
	}
	return l
}

func slowNext(c api.Conf, s api.State, now int) (api.Op, bool) {
	var l [3]api.Op // by each way of the first node
	for i := range s.Nodes {
		for way, o := range slowWays(c, s, now, i) {
			if l[way].Kind == 0 {
				l[way] = o
			}
		}
	}
	for _, o := range l {
		if o.Kind != 0 && s.Mode != 1 {
			return o, true
		}
	}
	return api.Op{}, false
}

// What is wanted.

func wantBehind(t *testing.T, s api.State, want ...int) {
	t.Helper()
	if l := wave.Behind(s); !slices.Equal(l, want) {
		t.Error("behind", l, "want", want, "of", s)
	}
}

func wantAlone(t *testing.T, s api.State, node int, want bool) {
	t.Helper()
	if wave.Alone(s, node) != want {
		t.Error("node", node, "alone", !want, "of", s)
	}
}

func wantWave(t *testing.T, s api.State, want int) {
	t.Helper()
	if n := wave.Wave(s); n != want {
		t.Error("wave", n, "want", want, "of", s)
	}
}

func wantDone(t *testing.T, s api.State, want bool) {
	t.Helper()
	if wave.Done(s) != want {
		t.Error("done", !want, "of", s)
	}
}

func wantOp(t *testing.T, c api.Conf, s api.State, now int, want api.Op) {
	t.Helper()
	if o, ok := wave.Next(c, s, now); o != want || ok != (want.Kind != 0) {
		t.Error("next now", now, o, ok, "want", want, ops.Text(want), "of", c, s)
	}
}

func wantNext(t *testing.T, c api.Conf, s api.State, now int, words string) {
	t.Helper()
	wantOp(t, c, s, now, op(t, words))
}

// wantSlow holds all calls against the slow reading, of a state that may be.
func wantSlow(t *testing.T, c api.Conf, s api.State, now int) {
	t.Helper()
	right(t, c, s)
	wantBehind(t, s, slowBehind(s)...)
	for i := -1; i <= len(s.Nodes); i++ {
		wantAlone(t, s, i, slowAlone(s, i))
	}
	wantWave(t, s, slowWave(s))
	wantDone(t, s, slowDone(s))
	o, _ := slowNext(c, s, now)
	wantOp(t, c, s, now, o)
}

// row is a state, and what is next of it.
type row struct {
	text string
	jobs []api.Job
	next string
}

// wantRows asks for what is next now, which is 100.
func wantRows(t *testing.T, quota, most int, l []row) {
	t.Helper()
	for _, x := range l {
		s := state(x.text, x.jobs...)
		c := fleet(len(s.Nodes), quota, most)
		wantNext(t, c, right(t, c, s), 100, x.next)
		if wantSlow(t, c, s, 100); t.Failed() {
			t.Fatal("row", x)
		}
	}
}

func jobs(l ...api.Job) []api.Job { return l }

// The chapter's example.

// P17.2: one node of version 1, Goal 2: Cordon 0, then Move 0.
func TestExample(t *testing.T) {
	c := fleet(1, 1, 1)
	s := behind(t, c, "target 2")
	for _, words := range []string{"cordon 0", "move 0"} {
		wantDone(t, s, false)
		wantBehind(t, s, 0)
		wantNext(t, c, s, 7, words)
		s = applied(t, c, s, op(t, words))
	}
	wantNext(t, c, s, 7, nothing)
	wantBehind(t, s)
	wantDone(t, s, false)
	s = applied(t, c, s, op(t, "moved 0 2"))
	wantNext(t, c, s, 7, nothing)
	wantBehind(t, s)
	wantDone(t, s, true)
}

// P17.1: Behind, Alone, Wave, Done.

// P17.1: a node is behind, if it is up, not moving, and not of the version that is meant, cordoned or not, with a job or without.
func TestBehind(t *testing.T) {
	for _, x := range []struct {
		text string
		want []int
	}{
		{"1 1 0 | u1", nil}, {"2 1 0 | u1", []int{0}}, {"2 1 0 | u2", nil}, {"2 1 0 | u3", []int{0}}, {"9 8 0 | u9", nil}, {"9 8 0 | u8", []int{0}},
		{"2 1 0 | uc1", []int{0}}, {"2 1 0 | d1", nil}, {"2 1 0 | dc1", nil}, {"2 1 0 | m1", nil}, {"2 1 0 | u1:1", []int{0}}, {"2 1 0 | uc1:1", []int{0}},
		{"2 1 0 | uc2", nil}, {"2 1 0 | d2", nil}, {"2 1 0 | m2", nil}, {"2 1 0 | u2:1", nil}, {"2 1 0 | uc2:1", nil},
		{"2 1 1 | u1 u2", []int{0}}, {"2 1 2 | u1 u2", []int{1}}, {"2 1 0 | u1 u2", []int{0}}, {"2 2 2 | u1 u2", []int{0}}, {"2 3 2 | u1 u2 u3", []int{0, 1}},
		{"2 1 0 | u1 u1 u1 u1 u1 u1", []int{0, 1, 2, 3, 4, 5}}, {"1 2 2 | u1 u1 u1 u1 u1 u1", []int{0, 1, 2, 3, 4, 5}}, {"2 1 2 | u1 u1 u1 u1 u1 u1", nil},
		{"2 1 0 | u1 u2 u3 u4 u5 u6", []int{0, 2, 3, 4, 5}}, {"2 1 0 | u2 u2 u2 u2 u2 u1", []int{5}}, {"2 1 0 | u1 u2 u2 u2 u2 u2", []int{0}},
		{"2 1 0 | d1 u1 m1 uc1 dc1 u1:1", []int{1, 3, 5}}, {"2 1 0 | uc3:1 d3 u2 u3:1 m3 u1", []int{0, 3, 5}},
		{"2 1 0 | d1 d1 d1 d1 d1 d1", nil}, {"2 1 0 | m1 m1 m1 m1 m1 m1", nil}, {"2 1 0 | dc1 dc3 dc1 dc3 dc1 dc3", nil},
	} {
		for _, pin := range []int{0, 1, 2, 3} {
			s := state(x.text, running(1, pin))
			if c := fleet(len(s.Nodes), 4, 1); book.Right(c, s) { // else the pin isn't its nodes' version
				wantBehind(t, s, x.want...)
				wantSlow(t, c, s, 3)
			}
		}
	}
	wantBehind(t, api.State{})
	wantBehind(t, api.State{Goal: 2, Nodes: []api.Node{}})
}

// P17.1, P17.2: each version against each that is meant, by the goal, or by the prior one.
func TestVersions(t *testing.T) {
	for version := 1; version <= 9; version++ {
		for meant := 1; meant <= 9; meant++ {
			for other := 1; other <= 9; other++ {
				for mode, l := range [][2]int{{meant, other}, {meant, other}, {other, meant}} {
					s := api.State{Goal: l[0], Prior: l[1], Mode: mode, Nodes: []api.Node{{Up: true, Version: version}}}
					wantDone(t, s, version == meant)
					wantSlow(t, fleet(1, 1, 1), s, 5)
					s.Nodes[0].Cordon = true
					wantSlow(t, fleet(1, 1, 1), s, 5)
				}
			}
		}
	}
}

// P17.1: a node is left alone, if it has a job of whichever phase whose pin isn't 0, nor the version that is meant.
func TestAlone(t *testing.T) {
	met := map[bool]int{}
	for _, phase := range []int{api.Held, api.Running, api.Draining} {
		for version := 1; version <= 9; version++ {
			for _, pin := range []int{0, version} {
				for _, head := range []string{"1 1 0", "1 2 0", "2 1 0", "2 1 1", "2 1 2", "1 2 2", "9 8 0", "9 8 2", "8 9 1", "3 3 2"} {
					for _, mark := range []string{"u", "uc"} {
						v := strconv.Itoa(version)
						s := state(head+"|u"+v+" "+mark+v+":1 u"+v, job(phase, 1, pin))
						want := pin != 0 && version != slowMeant(s)
						right(t, fleet(3, 4, 1), s)
						wantAlone(t, s, 1, want)
						wantAlone(t, s, 0, false)
						wantAlone(t, s, 2, false)
						met[want]++
					}
				}
			}
		}
	}
	if met[true] < 100 || met[false] < 100 {
		t.Error("too few:", met)
	}
}

// P17.1: each node is asked by its own job.
func TestAloneEach(t *testing.T) {
	s := state("2 1 0 | u1:1 u1:2 u1:1 u2:3 u1 u3:4", running(1, 1), running(1, 0), draining(1, 2), held(1, 3))
	right(t, fleet(6, 1, 1), s)
	for mode, want := range [][]bool{{true, false, true, false, false, true}, {true, false, true, false, false, true}, {false, false, false, true, false, true}} {
		s.Mode = mode
		for i, w := range want {
			wantAlone(t, s, i, w)
		}
	}
}

// P17.1: what is no node isn't left alone; Ended and Queued jobs' pins leave none alone.
func TestAloneNone(t *testing.T) {
	s := state("2 1 0 | u1:1 u1:1 u1:1 u1:1 u1:1 u1:1", running(1, 1), job(api.Ended, 1, 1), job(api.Queued, 1, 1))
	right(t, fleet(6, 1, 1), s)
	for i := range 6 {
		wantAlone(t, s, i, true)
	}
	for _, i := range far {
		wantAlone(t, s, i, false)
		wantAlone(t, api.State{}, i, false)
	}
	for nodes := 1; nodes <= 6; nodes++ {
		s := state("2 1 0 |"+strings.Repeat(" u1:1", nodes), running(1, 1))
		for i := range 8 {
			wantAlone(t, s, i, i < nodes)
		}
		wantAlone(t, s, -1, false)
	}
	s = state("2 1 0 | u1 u1", job(api.Ended, 1, 1), job(api.Queued, 1, 1))
	wantAlone(t, s, 0, false)
	wantAlone(t, s, 1, false)
	wantAlone(t, api.State{}, 0, false)
}

// P17.1: how many are cordoned: up, down, moving, with a job, behind or not.
func TestCordoned(t *testing.T) {
	for text, want := range map[string]int{
		"u1": 0, "d1": 0, "u1:1": 0, "uc1": 1, "dc1": 1, "m1": 1, "uc1:1": 1, "uc2": 1, "m2": 1,
		"uc1 uc1 uc1 uc1 uc1 uc1": 6, "u1 u1 u1 u1 u1 u1": 0, "uc1 dc1 m1 uc1:1 u1 d1": 4, "uc2 dc2 m2 uc2:1 u2 d2": 4, "u1 u1 u1 u1 u1 uc1": 1, "dc1 dc1 dc1": 3, "m1 m2 m3": 3,
	} {
		for _, head := range []string{"1 1 0|", "2 1 0|", "2 1 1|", "1 2 2|"} {
			s := state(head+text, running(1, 0))
			wantWave(t, right(t, fleet(len(s.Nodes), 1, 1), s), want)
		}
	}
	wantWave(t, api.State{}, 0)
}

// P17.1: all is done, if each node is of the version that is meant, or down, or left alone, and none moves.
func TestDone(t *testing.T) {
	for _, x := range []struct {
		text string
		jobs []api.Job
		want bool
	}{
		{"2 1 0 | u2", nil, true}, {"2 1 0 | u1", nil, false}, {"2 1 0 | u3", nil, false}, {"2 1 0 | uc2", nil, true}, {"2 1 0 | uc1", nil, false},
		{"2 1 0 | d1", nil, true}, {"2 1 0 | dc1", nil, true}, {"2 1 0 | m1", nil, false}, {"2 1 0 | m2", nil, false}, {"2 1 0 | d2 u2", nil, true},
		{"2 1 1 | u1", nil, false}, {"2 1 1 | u2", nil, true}, {"2 1 2 | u1", nil, true}, {"2 1 2 | u2", nil, false}, {"2 1 2 | m1", nil, false}, {"2 1 1 | m2", nil, false},
		{"2 1 0 | u1:1", jobs(running(1, 0)), false}, {"2 1 0 | u1:1", jobs(running(1, 1)), true}, {"2 1 0 | uc1:1", jobs(running(1, 1)), true},
		{"2 1 0 | u1:1", jobs(held(1, 1)), true}, {"2 1 0 | u1:1", jobs(draining(1, 1)), true}, {"2 1 0 | uc1:1", jobs(draining(1, 0)), false},
		{"2 1 0 | u2:1", jobs(running(1, 2)), true}, {"2 1 0 | u2:1", jobs(running(1, 0)), true}, {"2 1 2 | u2:1", jobs(running(1, 2)), true}, {"2 1 2 | u2:1", jobs(running(1, 0)), false},
		{"2 1 0 | u1:1 m2", jobs(running(1, 1)), false}, {"2 1 0 | u1:1 u1", jobs(running(1, 1)), false}, {"2 1 0 | u1:1 u2 d1 dc3 uc2 u1:1", jobs(running(1, 1)), true},
		{"2 1 0 | u2 u2 u2 u2 u2 u2", nil, true}, {"2 1 0 | u1 u2 u2 u2 u2 u2", nil, false}, {"2 1 0 | u2 u2 u2 u2 u2 u1", nil, false}, {"2 1 0 | u2 u2 u2 u2 u2 m1", nil, false},
		{"2 1 0 | m1 u2 u2 u2 u2 u2", nil, false}, {"2 1 0 | d1 d1 d1 d1 d1 d1", nil, true}, {"2 1 0 | u1:1 u1:2", jobs(running(1, 1), running(1, 0)), false},
	} {
		s := state(x.text, x.jobs...)
		wantDone(t, right(t, fleet(len(s.Nodes), 4, 1), s), x.want)
	}
	wantDone(t, api.State{}, true)
	wantDone(t, api.State{Goal: 2, Nodes: []api.Node{}}, true)
}

// P17.2: the first way, Uncordon.

// P17.2: of a node that is cordoned, up and not moving, and of the version that is meant, or left alone.
func TestUncordon(t *testing.T) {
	wantRows(t, 1, 1, []row{
		{"2 1 0 | uc2", nil, "uncordon 0"}, {"2 1 0 | dc2", nil, nothing}, {"2 1 0 | dc1", nil, nothing}, {"2 1 0 | m2", nil, nothing}, {"2 1 0 | m1", nil, nothing}, {"2 1 0 | u2", nil, nothing},
		{"2 1 0 | uc2:1", jobs(running(1, 0)), "uncordon 0"}, {"2 1 0 | uc2:1", jobs(running(1, 2)), "uncordon 0"}, {"2 1 0 | uc2:1", jobs(held(1, 0)), "uncordon 0"}, {"2 1 0 | uc2:1", jobs(draining(1, 0)), "uncordon 0"},
		{"2 1 0 | uc1:1", jobs(running(1, 1)), "uncordon 0"}, {"2 1 0 | uc1:1", jobs(held(1, 1)), "uncordon 0"}, {"2 1 0 | uc1:1", jobs(draining(1, 1)), "uncordon 0"},
		{"2 1 0 | u1:1", jobs(running(1, 1)), nothing}, {"2 1 0 | u2:1", jobs(running(1, 2)), nothing}, {"2 1 2 | uc2:1", jobs(running(1, 2)), "uncordon 0"}, {"2 1 2 | u2:1", jobs(running(1, 2)), nothing},
		{"2 1 2 | uc1", nil, "uncordon 0"}, {"1 1 0 | uc1", nil, "uncordon 0"}, {"2 3 0 | uc3:1", jobs(draining(1, 3)), "uncordon 0"},
		{"2 1 0 | uc1 uc2", nil, "uncordon 1"}, {"2 1 0 | uc2 uc2", nil, "uncordon 0"}, {"2 1 0 | dc2 m2 u2 uc2 uc2", nil, "uncordon 3"}, {"2 1 0 | uc1 uc1 uc1 uc1 uc1 uc2", nil, "uncordon 5"},
		{"2 1 0 | uc1:1 uc2", jobs(running(1, 1)), "uncordon 0"}, {"2 1 0 | uc2 uc1:1", jobs(running(1, 1)), "uncordon 0"}, {"2 1 0 | u1:1 uc1:1", jobs(running(1, 1)), "uncordon 1"},
	})
}

// P17.2: the second way.

// P17.2: of a node without a job Move; of one with a job what the job's phase asks for; nothing while it is being drained.
func TestTaken(t *testing.T) {
	wantRows(t, 1, 1, []row{
		{"2 1 0 | uc1", nil, "move 0"}, {"2 1 0 | uc3", nil, "move 0"}, {"2 1 0 | dc1", nil, nothing}, {"2 1 0 | m1", nil, nothing}, {"2 1 2 | uc2", nil, "move 0"}, {"2 2 2 | uc1", nil, "move 0"},
		{"2 1 0 | uc1", jobs(job(api.Queued, 1, 1), job(api.Ended, 1, 1)), "move 0"},
		{"2 1 0 | uc1:1", jobs(held(1, 0)), "unhold 1"}, {"2 1 0 | uc1:1 u1:1", jobs(held(1, 0)), "unhold 1"}, {"2 1 0 | u1:1 uc1:1", jobs(held(2, 0)), "unhold 1"},
		{"2 1 0 | uc1:1", jobs(running(1, 0)), "drain 1 109"}, {"2 1 0 | uc1:1 u1:1", jobs(running(2, 0)), "drain 1 109"}, {"2 1 0 | uc1:1 uc1:1", jobs(running(2, 0)), "drain 1 109"},
		{"2 1 0 | uc1:1 u1:1", jobs(running(1, 0)), "shrink 1 0"}, {"2 1 0 | u1:1 uc1:1", jobs(running(1, 0)), "shrink 1 1"}, {"2 1 0 | u1:1 uc1:1 u1:1", jobs(running(1, 0)), "shrink 1 1"},
		{"2 1 0 | u1:1 uc1:1 u1:1", jobs(running(2, 0)), "shrink 1 1"}, {"2 1 0 | u1:1 uc1:1 u1:1", jobs(running(3, 0)), "drain 1 109"},
		{"2 1 0 | uc1:1", jobs(draining(1, 0)), nothing}, {"2 1 0 | uc1:1 u1:1", jobs(draining(1, 0)), nothing}, {"2 1 0 | uc1:1 uc1:1", jobs(draining(1, 0)), nothing},
		{"2 1 2 | uc2:1", jobs(held(1, 0)), "unhold 1"}, {"2 1 2 | uc2:1 u2:1", jobs(running(1, 0)), "shrink 1 0"}, {"2 1 2 | uc2:1", jobs(running(1, 0)), "drain 1 109"},
		{"2 1 0 | u2 u2 u2 u2 u2 uc1", nil, "move 5"},
		{"2 1 0 | uc1:3", jobs(job(api.Queued, 1, 0), job(api.Ended, 1, 0), held(1, 0)), "unhold 3"},
		{"2 1 0 | u1:1 u1:1 u1:1 u1:1 u1:1 uc1:1", jobs(running(5, 0)), "shrink 1 5"}, {"2 1 0 | u1:1 u1:1 u1:1 u1:1 u1:1 uc1:1", jobs(running(6, 0)), "drain 1 109"},
	})
}

// P17.2: a job that is pinned to the version that is meant hosts no node that is behind; one without a pin is taken, one that is pinned to another version isn't, in each phase.
func TestPins(t *testing.T) {
	for phase, taken := range map[int]string{api.Held: "unhold 1", api.Running: "drain 1 109", api.Draining: nothing} {
		wantRows(t, 1, 1, []row{
			{"2 1 0 | uc1:1", jobs(job(phase, 1, 0)), taken},
			{"2 1 0 | uc1:1", jobs(job(phase, 1, 1)), "uncordon 0"},
			{"2 1 0 | uc2:1", jobs(job(phase, 1, 2)), "uncordon 0"},
			{"2 1 0 | u2:1", jobs(job(phase, 1, 2)), nothing},
			{"2 1 0 | u1:1", jobs(job(phase, 1, 1)), nothing},
			{"2 1 0 | u1:1", jobs(job(phase, 1, 0)), "cordon 0"},
			{"2 1 0 | u3:1", jobs(job(phase, 1, 3)), nothing},
			{"2 1 2 | uc1:1", jobs(job(phase, 1, 1)), "uncordon 0"},
			{"2 1 2 | u1:1", jobs(job(phase, 1, 1)), nothing},
			{"2 1 2 | uc2:1", jobs(job(phase, 1, 0)), taken},
			{"2 1 2 | uc2:1", jobs(job(phase, 1, 2)), "uncordon 0"},
			{"2 1 2 | u2:1", jobs(job(phase, 1, 2)), nothing},
		})
	}
}

// P17.2: the first node of which there is something comes first; those whose jobs are waited for are passed over.
func TestFirstTaken(t *testing.T) {
	wantRows(t, 1, 6, []row{
		{"2 1 0 | uc1 uc1", nil, "move 0"}, {"2 1 0 | m1 uc1", nil, "move 1"}, {"2 1 0 | dc1 uc1", nil, "move 1"}, {"2 1 0 | u1 uc1", nil, "move 1"},
		{"2 1 0 | uc1:1 uc1", jobs(held(1, 0)), "unhold 1"}, {"2 1 0 | uc1 uc1:1", jobs(held(1, 0)), "move 0"},
		{"2 1 0 | uc1:1 uc1", jobs(running(1, 0)), "drain 1 109"}, {"2 1 0 | uc1 uc1:1", jobs(running(1, 0)), "move 0"},
		{"2 1 0 | uc1:1 u1:1 uc1", jobs(running(1, 0)), "shrink 1 0"}, {"2 1 0 | uc1 u1:1 uc1:1", jobs(running(1, 0)), "move 0"},
		{"2 1 0 | uc1:1 uc1:2", jobs(held(1, 0), running(1, 0)), "unhold 1"}, {"2 1 0 | uc1:2 uc1:1", jobs(held(1, 0), running(1, 0)), "drain 2 109"}, {"2 1 0 | uc1:2 uc1:1", jobs(held(1, 0), held(1, 0)), "unhold 2"},
		{"2 1 0 | uc1:1 uc1:1", jobs(running(1, 0)), "shrink 1 0"}, {"2 1 0 | uc1:2 uc1:1 u1:1 u1:2", jobs(running(1, 0), running(2, 0)), "drain 2 109"}, {"2 1 0 | u1:2 uc1:1 u1:1 uc1:2", jobs(running(1, 0), running(2, 0)), "shrink 1 1"},
		{"2 1 0 | uc1:1 uc1", jobs(draining(1, 0)), "move 1"}, {"2 1 0 | uc1:1 uc1:2", jobs(draining(1, 0), held(1, 0)), "unhold 2"}, {"2 1 0 | uc1:1 uc1:2 uc1:2", jobs(draining(1, 0), running(1, 0)), "shrink 2 1"},
		{"2 1 0 | uc1:1 uc1:2 uc1", jobs(draining(1, 0), running(1, 0)), "move 2"}, {"2 1 0 | uc1:1 uc1:2 uc1:3", jobs(draining(1, 0), running(1, 0), in(1, running(1, 0))), "drain 3 109"},
		{"2 1 0 | u2 d1 dc1 m1 u1 uc1", nil, "move 5"},
	})
}

// P17.2: a queue whose quota is met has no more jobs drained; those that are held or shrunk don't count, nor other queues' drains.
func TestQuota(t *testing.T) {
	two := func(a, b api.Job) []api.Job { return jobs(a, b) }
	for quota, l := range [][]row{
		{{"2 1 0 | uc1:1", jobs(running(1, 0)), nothing}, {"2 1 0 | uc1:1 u1:1", jobs(running(1, 0)), "shrink 1 0"}, {"2 1 0 | uc1:1", jobs(held(1, 0)), "unhold 1"}, {"2 1 0 | uc1:1 uc1", jobs(running(1, 0)), "move 1"}},
		{{"2 1 0 | uc1:1 uc1:2", two(running(1, 0), draining(1, 0)), nothing}, {"2 1 0 | uc1:1 uc1:2", two(running(1, 0), in(2, draining(1, 0))), "drain 1 109"},
			{"2 1 0 | uc1:1 uc1:2", two(in(2, running(1, 0)), draining(1, 0)), "drain 1 109"}, {"2 1 0 | uc1:1 uc1:2", two(in(1, running(1, 0)), in(1, draining(1, 0))), nothing},
			{"2 1 0 | uc1:1 d1 u1:2", two(running(1, 0), draining(1, 0)), "cordon 2"}, {"2 1 0 | uc1:1 u2:2", two(running(1, 0), draining(1, 0)), nothing}, {"2 1 0 | uc1:1 u2:2", two(running(1, 0), held(1, 0)), "drain 1 109"},
			{"2 1 0 | uc1:1 uc1:1 u2:2", two(running(1, 0), draining(1, 0)), "shrink 1 0"}, {"2 1 0 | uc1:1 u2:2", two(running(1, 0), running(1, 0)), "drain 1 109"}},
		{{"2 1 0 | uc1:1 uc1:2", two(running(1, 0), draining(1, 0)), "drain 1 109"}, {"2 1 0 | uc1:1 uc1:2 u1:3", jobs(running(1, 0), draining(1, 0), draining(1, 0)), "cordon 2"},
			{"2 1 0 | uc1:1 u2:2 u1:3", jobs(running(1, 0), draining(1, 0), in(1, draining(1, 0))), "drain 1 109"}},
		{{"2 1 0 | uc1:1 u2:2 u2:3 u2:4", jobs(running(1, 0), draining(1, 0), draining(1, 0), draining(1, 0)), nothing}, {"2 1 0 | uc1:1 u2:2 u2:3", jobs(running(1, 0), draining(1, 0), draining(1, 0)), "drain 1 109"}},
		{{"2 1 0 | uc1:1 u2:2 u2:3 u2:4", jobs(running(1, 0), draining(1, 0), draining(1, 0), draining(1, 0)), "drain 1 109"}, {"2 1 0 | uc1:1 u2:2 u2:3 u2:4 u2:5", jobs(running(1, 0), draining(1, 0), draining(1, 0), draining(1, 0), draining(1, 0)), nothing}},
	} {
		wantRows(t, quota, 6, l)
	}
}

// P17.2: a drain lasts until now and the deadline together, at most MaxTime.
func TestUntil(t *testing.T) {
	s := state("2 1 0 | uc1:1", running(1, 0))
	s.Jobs[0].Since, s.Jobs[0].Until = 77, 78
	for _, x := range [][3]int{
		{0, 1, 1}, {0, 9, 9}, {0, 60, 60}, {1, 1, 2}, {5, 9, 14}, {100, 60, 160}, {77, 1, 78},
		{last, 1, last}, {last, 60, last}, {last - 1, 1, last}, {last - 2, 1, last - 1}, {last - 60, 60, last}, {last - 61, 60, last - 1}, {last - 59, 60, last}, {last - 1, 60, last}, {last - 9, 9, last}, {last - 10, 9, last - 1}, {last - 8, 9, last},
	} {
		c := fleet(1, 1, 1)
		c.Deadline = x[1]
		wantOp(t, c, right(t, c, s), x[0], api.Op{Kind: api.Drain, A: 1, B: x[2]})
		wantSlow(t, c, s, x[0])
		applied(t, c, s, api.Op{Kind: api.Drain, A: 1, B: x[2]})
	}
}

// P17.2: of the others no number hangs on the time, nor on the deadline.
func TestOtherTimes(t *testing.T) {
	for text, words := range map[string]string{"u1 d1": "cordon 0", "uc1 u2:1": "move 0", "uc2 u1": "uncordon 0", "uc1:1 u1:1": "shrink 1 0", "d1 u2": nothing, "uc1:2 u1": "unhold 2"} {
		s := state("2 1 0|"+text, running(1, 0), held(1, 0))
		for _, now := range []int{0, 1, 50, last - 9, last - 8, last} {
			for _, deadline := range []int{1, 9, 60} {
				c := fleet(2, 1, 2)
				c.Deadline = deadline
				wantNext(t, c, right(t, c, s), now, words)
			}
		}
	}
}

// P17.2: the third way, Cordon.

// P17.2: of the first node that is behind, not cordoned, and not left alone.
func TestCordon(t *testing.T) {
	wantRows(t, 1, 6, []row{
		{"2 1 0 | u1", nil, "cordon 0"}, {"2 1 0 | u2", nil, nothing}, {"2 1 0 | d1", nil, nothing}, {"2 1 0 | m1", nil, nothing}, {"2 1 0 | dc1", nil, nothing},
		{"2 1 0 | u1 u1", nil, "cordon 0"}, {"2 1 0 | u2 u1", nil, "cordon 1"}, {"2 1 0 | d1 u1", nil, "cordon 1"}, {"2 1 0 | m1 u1", nil, "cordon 1"}, {"2 1 0 | dc1 u3", nil, "cordon 1"},
		{"2 1 0 | u1:1", jobs(held(1, 0)), "cordon 0"}, {"2 1 0 | u1:1", jobs(running(1, 0)), "cordon 0"}, {"2 1 0 | u1:1", jobs(draining(1, 0)), "cordon 0"},
		{"2 1 0 | u1:1 u1", jobs(running(1, 1)), "cordon 1"}, {"2 1 0 | u1:1 u1 u1:1 u1", jobs(held(1, 1)), "cordon 1"}, {"2 1 0 | u1:1 u2", jobs(draining(1, 1)), nothing},
		{"2 1 0 | uc1:1 u1", jobs(draining(1, 0)), "cordon 1"}, {"2 1 0 | m1 m3 dc1 uc1:1 u2 u3", jobs(draining(1, 0)), "cordon 5"},
		{"2 1 0 | u2 u2 u2 u2 u2 u1", nil, "cordon 5"}, {"2 1 0 | u1 u1 u1 u1 u1 u1", nil, "cordon 0"}, {"2 1 2 | u1 u2 u1 u2 u3 u2", nil, "cordon 1"}, {"2 3 2 | u3 u3 u1", nil, "cordon 2"},
	})
}

// P17.2: as long as the wave is less than the fleet's, the least and the greatest; nodes that are down or moving count in it.
func TestWaveMet(t *testing.T) {
	for most := 1; most <= 6; most++ {
		for nodes := 1; nodes <= 6; nodes++ {
			for cordoned := range nodes + 1 {
				for _, mark := range []string{"m1", "dc1", "m2", "dc2", "uc1:1"} {
					words := slices.Concat(slices.Repeat([]string{mark}, cordoned), slices.Repeat([]string{"u1"}, nodes-cordoned))
					s := state("2 1 0|"+strings.Join(words, " "), draining(1, 0))
					c, want := fleet(nodes, 1, most), nothing
					if cordoned < most && cordoned < nodes {
						want = "cordon " + strconv.Itoa(cordoned)
					}
					wantNext(t, c, right(t, c, s), 100, want)
					wantSlow(t, c, s, 100)
				}
			}
		}
	}
}

// P17.2: a wave that is above the fleet's, for an operator cordoned the nodes, takes no more, but is gone on with.
func TestWaveAbove(t *testing.T) {
	c := fleet(5, 4, 2)
	s := behind(t, c, "target 2", "cordon 1", "cordon 2", "cordon 4")
	for i, words := range []string{"move 1", "move 2", "move 4", nothing} {
		wantNext(t, c, s, i, words)
		if words != nothing {
			s = applied(t, c, s, op(t, words))
		}
	}
	for i, l := range [][2]string{{"moved 2 2", nothing}, {"moved 4 2", "cordon 0"}, {"moved 1 2", "cordon 0"}} {
		s = applied(t, c, s, op(t, l[0]))
		wantNext(t, c, s, i, l[1])
	}
	s = applied(t, c, s, op(t, "cordon 0"))
	wantNext(t, c, s, 9, "move 0")
}

// P17.2: which way comes first, whichever node it is of.
func TestWhichWay(t *testing.T) {
	wantRows(t, 1, 6, []row{
		{"2 1 0 | u1 uc1 uc2", nil, "uncordon 2"}, {"2 1 0 | uc2 uc1 u1", nil, "uncordon 0"}, {"2 1 0 | uc1 u1 uc2", nil, "uncordon 2"}, {"2 1 0 | u1 uc1", nil, "move 1"}, {"2 1 0 | uc1 u1", nil, "move 0"},
		{"2 1 0 | u1 uc1:1", jobs(held(1, 0)), "unhold 1"}, {"2 1 0 | u1 uc1:1 u1:1", jobs(running(1, 0)), "shrink 1 1"}, {"2 1 0 | u1 uc1:1", jobs(running(1, 0)), "drain 1 109"}, {"2 1 0 | u1 uc1:1", jobs(draining(1, 0)), "cordon 0"},
		{"2 1 0 | uc1:1 uc2", jobs(held(1, 0)), "uncordon 1"}, {"2 1 0 | uc1:1 u1:1 uc2", jobs(running(1, 0)), "uncordon 2"}, {"2 1 0 | uc1:1 uc2", jobs(running(1, 0)), "uncordon 1"}, {"2 1 0 | uc1:1 uc2", jobs(draining(1, 0)), "uncordon 1"},
		{"2 1 0 | uc1 uc1:1", jobs(held(1, 1)), "uncordon 1"}, {"2 1 0 | u1 uc1:1", jobs(held(1, 1)), "uncordon 1"}, {"2 1 0 | uc1:1 u1 uc1:2", jobs(running(1, 0), running(1, 1)), "uncordon 2"},
		{"2 1 0 | u1 uc1 m1 dc1 uc2:1 uc2", jobs(running(1, 0)), "uncordon 4"},
	})
	wantRows(t, 1, 1, []row{ // a wave that is met keeps the first two ways from nothing
		{"2 1 0 | u1 uc1 uc2", nil, "uncordon 2"}, {"2 1 0 | u1 uc1 dc2", nil, "move 1"}, {"2 1 0 | u1 m1 dc2", nil, nothing}, {"2 1 0 | u1 uc1:1", jobs(running(1, 0)), "drain 1 109"}, {"2 1 0 | u1 uc1:1", jobs(draining(1, 0)), nothing},
	})
}

// P17.2: nothing while it is Paused, whatever there would be; the same Rolling, or Aborted, is gone on with.
func TestPaused(t *testing.T) {
	for _, x := range []struct {
		text, rolling, aborted string
		job                    api.Job
	}{
		{"u1 u2:1", "cordon 0", "cordon 1", running(1, 0)},
		{"uc1 u2:1", "move 0", "uncordon 0", running(1, 0)},
		{"uc2 u1:1", "uncordon 0", "move 0", running(1, 0)},
		{"uc1:1 u2", "drain 1 109", "uncordon 0", running(1, 0)},
		{"uc1:1 u1:1", "shrink 1 0", "uncordon 0", running(1, 0)},
		{"uc1:1 u2", "unhold 1", "uncordon 0", held(1, 0)},
		{"uc2:1 u1", "uncordon 0", "drain 1 109", running(1, 0)},
		{"uc1:1 u1", "uncordon 0", "uncordon 0", running(1, 1)},
		{"m1 u2:1", nothing, "cordon 1", held(1, 0)},
	} {
		s := state("2 1 0|"+x.text, x.job)
		c := fleet(2, 1, 2)
		for mode, words := range []string{x.rolling, nothing, x.aborted} {
			s.Mode = mode
			wantNext(t, c, right(t, c, s), 100, words)
			wantSlow(t, c, s, 100)
		}
	}
}

// P17.2: where nothing is next, a zero op and false.
func TestNothing(t *testing.T) {
	for _, text := range []string{"u2", "d1", "d1 d1 d1 d1 d1 d1", "dc1 dc2 dc3", "m1 m2 m3", "u2 u2 u2 u2 u2 u2", "d2 m1 dc3 u2"} {
		for _, l := range [][]api.Job{nil, jobs(job(api.Queued, 1, 0)), jobs(job(api.Ended, 1, 1), job(api.Queued, 1, 1))} {
			s := state("2 1 0|"+text, l...)
			c := fleet(len(s.Nodes), 4, 6)
			for _, now := range []int{0, 50, last} {
				wantNext(t, c, right(t, c, s), now, nothing)
			}
		}
	}
	for _, c := range []api.Conf{{}, fleet(1, 1, 1), fleet(6, 4, 6)} {
		wantNext(t, c, api.State{}, 0, nothing)
		wantNext(t, c, api.State{Goal: 2, Nodes: []api.Node{}, Jobs: []api.Job{}}, 5, nothing)
	}
	for nodes := 1; nodes <= 6; nodes++ {
		c := fleet(nodes, 1, 1)
		wantNext(t, c, book.New(c), 0, nothing)
	}
}

// Fleets that go on step by step.

// steps does ops one by one; those that begin with a > must be what is next, and an empty one tells that nothing is.
func steps(t *testing.T, c api.Conf, s api.State, now int, l ...string) api.State {
	t.Helper()
	for i, line := range l {
		if wantSlow(t, c, s, now); t.Failed() {
			t.Fatal("step", i, line)
		}
		words, isNext := strings.CutPrefix(line, "> ")
		if isNext || line == nothing {
			wantNext(t, c, s, now, words)
		}
		if t.Failed() {
			t.Fatal("step", i, line)
		}
		if line != nothing {
			s = applied(t, c, s, op(t, words))
		}
	}
	return s
}

// P17.2: two nodes at a time, a job on each two of them: one is shrunk, one drained, one unheld, one left alone.
func TestRollout(t *testing.T) {
	c := fleet(6, 1, 2)
	s := behind(t, c, "submit 0 1 1 2 9 0", "submit 0 1 1 1 9 0", "submit 0 1 1 1 9 0", "submit 1 1 1 1 9 1",
		"hold 1 3", "start 1 0", "hold 2 4", "start 2 0", "hold 3 8", "hold 4 16", "start 4 0", "target 2")
	wantBehind(t, s, 0, 1, 2, 3, 4, 5)
	s = steps(t, c, s, 20,
		"> cordon 0", "> shrink 1 0", "> move 0", "> cordon 1", "> drain 1 29", nothing,
		"moved 0 2", "> cordon 2", nothing, // the queue's quota is met
		"saved 1 1", "evict 1", "> move 1", "> drain 2 29", nothing,
		"moved 1 2", "> cordon 3", "> unhold 3", "> move 3", nothing,
		"moved 3 2", "> cordon 5", "> move 5", nothing,
		"done 2", "> move 2", nothing, "moved 5 2", nothing, "moved 2 2", nothing)
	wantBehind(t, s, 4)
	wantAlone(t, s, 4, true)
	wantDone(t, s, true)
	s = steps(t, c, s, 40, "done 4", "> cordon 4", "> move 4", nothing, "moved 4 2", nothing)
	wantBehind(t, s)
	wantWave(t, s, 0)
	wantDone(t, s, true)
}

// P17.2: forth, paused, back, and forth to a third version.
func TestForthAndBack(t *testing.T) {
	c := fleet(3, 1, 1)
	s := steps(t, c, book.New(c), 5, nothing, "target 2", "> cordon 0", "> move 0", nothing, "moved 0 2", "> cordon 1", "pause", nothing, "resume", "> move 1",
		"abort", nothing)
	wantBehind(t, s, 0) // 1 still moves, and is the wave
	s = steps(t, c, s, 6, "moved 1 2", "> cordon 0", "> move 0", "moved 0 1", "> cordon 1", "> move 1", "moved 1 1", nothing)
	wantDone(t, s, true)
	s = steps(t, c, s, 7, "target 3", "> cordon 0", "abort", "> uncordon 0", nothing, "target 3", "> cordon 0", "> move 0", "moved 0 1", "> cordon 0", "> move 0", "moved 0 3",
		"> cordon 1", "down 1", nothing, "up 1 3", "> uncordon 1", "> cordon 2", "> move 2", "down 2", nothing, "up 2 1", "> move 2", "moved 2 3", nothing)
	wantDone(t, s, true)
	wantBehind(t, s)
}

// By the slow reading.

// each hands on all rows of the numbers l and one more below each of most, all in the same memory.
func each(l []int, most ...int) func(yield func([]int) bool) {
	return func(yield func([]int) bool) {
		if len(most) == 0 {
			yield(l)
			return
		}
		for n := range most[0] {
			for x := range each(append(l, n), most[1:]...) {
				if !yield(x) {
					return
				}
			}
		}
	}
}

var (
	heads = []string{"2 1 0|", "2 1 2|", "1 2 0|", "3 3 0|", "2 2 2|", "2 1 1|"}
	marks = []string{"u1", "u2", "u3", "d1", "d2", "uc1", "uc2", "uc3", "dc1", "dc2", "m1", "m2", "u1:1", "uc1:1", "u2:1", "uc2:1", "u1:2", "uc1:2", "u2:2", "uc2:2"}
)

// moment is a state of a fleet at a time.
type moment struct {
	c   api.Conf
	s   api.State
	now int
}

// someTime is the first, the last, or one from which a deadline is just met.
func someTime(r *rand.Rand) int {
	return []int{0, 1, 40, last - 60, last - 10, last - 9, last - 8, last}[r.IntN(8)]
}

// someFleet is one with any quota, wave and deadline.
func someFleet(r *rand.Rand, nodes int) api.Conf {
	c := fleet(nodes, r.IntN(3), 1+r.IntN(3))
	if r.IntN(4) == 0 {
		c.Quota, c.Wave, c.Deadline = r.IntN(5), 1+r.IntN(6), 1+r.IntN(60)
	}
	return c
}

// someJob is one of any phase.
func someJob(r *rand.Rand) api.Job {
	return in(r.IntN(2), job(1+r.IntN(3), 1+r.IntN(2), max(0, r.IntN(6)-2)))
}

// some is a state of these nodes with two jobs of any sort, at some time, of some fleet; false, if it may not be.
func some(r *rand.Rand, text string) (moment, bool) {
	s := state(heads[r.IntN(len(heads))]+text, someJob(r), someJob(r))
	for i := range s.Jobs {
		if s.Jobs[i].Phase == api.Queued {
			s.Jobs[i].Phase = []int{api.Queued, api.Ended}[r.IntN(2)]
		}
	}
	m := moment{someFleet(r, len(s.Nodes)), s, someTime(r)}
	return m, book.Right(m.c, m.s)
}

// threes hands on states of three nodes of each sort, some of each.
func threes(lots int, do func(m moment)) {
	r := rand.New(rand.NewPCG(3, 17))
	for l := range each(nil, len(marks), len(marks), len(marks)) {
		for range lots {
			if m, ok := some(r, marks[l[0]]+" "+marks[l[1]]+" "+marks[l[2]]); ok { // else a job has two versions, or too few nodes
				do(m)
			}
		}
	}
}

// wantSlowOf holds a moment against the slow reading, and stops at the first fault.
func wantSlowOf(t *testing.T, m moment) {
	t.Helper()
	if wantSlow(t, m.c, m.s, m.now); t.Failed() {
		t.FailNow()
	}
}

// P17.1, P17.2: every three nodes of these sorts.
func TestEveryThree(t *testing.T) {
	n := 0
	threes(12, func(m moment) {
		wantSlowOf(t, m)
		n++
	})
	if n < 20000 {
		t.Error("too few states:", n)
	}
}

// P17.1, P17.2: every one and every two nodes of these sorts, with each pin and phase of a job that has them.
func TestEveryTwo(t *testing.T) {
	for l := range each(nil, len(marks), 1+len(marks), 5, 4, 2, len(heads)) {
		text := marks[l[0]]
		if l[1] < len(marks) {
			text += " " + marks[l[1]]
		}
		s := state(heads[l[5]]+text, job(l[2], 1+l[4], l[3]), running(1, 0))
		for quota := range 2 {
			for most := 1; most <= 2; most++ {
				if c := fleet(len(s.Nodes), quota, most); book.Right(c, s) {
					wantSlowOf(t, moment{c, s, 30})
				}
			}
		}
	}
}

// P17.1, P17.2: six nodes of any sort.
func TestSix(t *testing.T) {
	r := rand.New(rand.NewPCG(4, 17))
	n := 0
	for range 60000 {
		words := make([]string, 6)
		for i := range words {
			words[i] = marks[r.IntN(len(marks))]
		}
		if m, ok := some(r, strings.Join(words, " ")); ok {
			wantSlowOf(t, m)
			n++
		}
	}
	if n < 5000 {
		t.Error("too few states:", n)
	}
}

// runs hands on the states of runs of ops, each at the time that goes on meanwhile; some runs end at MaxTime.
func runs(do func(m moment)) {
	r := rand.New(rand.NewPCG(1, 17))
	for run := range 240 {
		m := moment{c: someFleet(r, []int{6, 6, 3, 1 + r.IntN(6)}[run%4])}
		m.s = book.New(m.c)
		if run%6 == 5 {
			m.now = last - 60
		}
		do(m)
		for range 300 {
			if x, e := book.Apply(m.c, m.s, someOp(r, m)); e == api.OK {
				m.s = x
				do(m)
			}
			if r.IntN(3) == 0 {
				m.now = min(last, m.now+1)
			}
		}
	}
}

// someOp is one that can mostly be done at some time, what is next among them; jobs end, and nodes fail, seldom.
func someOp(r *rand.Rand, m moment) api.Op {
	k, node, seldom := 1+r.IntN(len(m.s.Jobs)+1), r.IntN(m.c.Nodes), r.IntN(4) == 0
	switch r.IntN(18) {
	case 0, 1:
		least := 1 + r.IntN(m.c.Nodes)
		return api.Op{Kind: api.Submit, A: r.IntN(3), B: r.IntN(10), C: max(1, least-1), D: least + r.IntN(m.c.Nodes-least+1), E: 1 + r.IntN(15), F: max(0, r.IntN(6)-3)}
	case 2, 3, 4:
		return api.Op{Kind: api.Start, A: k, B: m.now}
	case 5:
		return api.Op{Kind: api.Drain, A: k, B: min(last, m.now+r.IntN(10))}
	case 6:
		return api.Op{Kind: api.Evict, A: k}
	case 7:
		return api.Op{Kind: api.Up, A: node, B: 1 + r.IntN(2)}
	case 8:
		if seldom {
			return api.Op{Kind: api.Down, A: node}
		}
	case 9:
		return []api.Op{{Kind: api.Done, A: k}, {Kind: api.Unhold, A: k}, {Kind: api.Shrink, A: k, B: node}, {Kind: api.Cancel, A: k}}[r.IntN(4)]
	case 10, 11:
		return []api.Op{{Kind: api.Cordon, A: node}, {Kind: api.Cordon, A: node}, {Kind: api.Uncordon, A: node}, {Kind: api.Move, A: node}}[r.IntN(4)]
	case 12:
		return api.Op{Kind: api.Moved, A: node, B: 1 + r.IntN(2)}
	case 13:
		if seldom {
			return []api.Op{{Kind: api.Target, A: 1 + r.IntN(3)}, {Kind: api.Target, A: 1 + r.IntN(2)}, {Kind: api.Pause}, {Kind: api.Resume}, {Kind: api.Resume}, {Kind: api.Abort}}[r.IntN(6)]
		}
	case 14:
		if o, ok := slowNext(m.c, m.s, m.now); ok {
			return o
		}
	}
	return someHold(r, m)
}

// someHold is one of free nodes, if there are any that do.
func someHold(r *rand.Rand, m moment) api.Op {
	for range 20 {
		o := api.Op{Kind: api.Hold, A: 1 + r.IntN(len(m.s.Jobs)+1), B: r.IntN(1 << m.c.Nodes)}
		if _, e := book.Apply(m.c, m.s, o); e == api.OK {
			return o
		}
	}
	return api.Op{Kind: api.Newterm}
}

// marked is which sort of node one is: free, up with a job, cordoned, cordoned with a job, moving, down, down and cordoned.
func marked(n api.Node) int {
	switch {
	case !n.Up && n.Cordon:
		return 6
	case !n.Up:
		return 5
	case n.Moving:
		return 4
	case n.Cordon && n.Job != 0:
		return 3
	case n.Cordon:
		return 2
	case n.Job != 0:
		return 1
	}
	return 0
}

// sort is which sort what is next is of: none, for it is Paused, or all is done, or nodes move, jobs drain or wait; Uncordon of a node that isn't behind, of one that is left alone; what takes nodes; Cordon.
func sort(m moment) int {
	o, ok := slowNext(m.c, m.s, m.now)
	switch {
	case m.s.Mode == api.Paused:
		return 0
	case !ok && slowDone(m.s):
		return 1
	case !ok:
		return 2
	case o.Kind == api.Uncordon && !slowIsBehind(m.s, o.A):
		return 3
	case o.Kind == api.Uncordon:
		return 4
	}
	return 5 + slices.Index([]int{api.Move, api.Unhold, api.Shrink, api.Drain, api.Cordon}, o.Kind)
}

// waits says which nodes are passed over: none, one whose job is drained, one whose job's queue has met its quota, one for which there is no room in the wave.
func waits(m moment, node int) int {
	n := m.s.Nodes[node]
	if !slowIsBehind(m.s, node) || slowAlone(m.s, node) {
		return 0
	}
	switch {
	case !n.Cordon && slowWave(m.s) == m.c.Wave:
		return 3
	case !n.Cordon || n.Job == 0:
		return 0
	case m.s.Jobs[n.Job-1].Phase == api.Draining:
		return 1
	case slowTakes(m.c, m.s, m.now, node).Kind == 0:
		return 2
	}
	return 0
}

// P17.1, P17.2: states that ops lead to; they have nodes of each sort, jobs of each phase, each mode, and what is next of each sort.
func TestRuns(t *testing.T) {
	var phases [5]int
	var marks [7]int
	var modes [3]int
	var nexts [10]int
	var passed [4]int
	runs(func(m moment) {
		wantSlowOf(t, m)
		for i, n := range m.s.Nodes {
			marks[marked(n)]++
			passed[waits(m, i)]++
		}
		for _, j := range m.s.Jobs {
			phases[j.Phase]++
		}
		modes[m.s.Mode]++
		nexts[sort(m)]++
	})
	for _, l := range [][]int{phases[:], marks[:], modes[:], nexts[:], passed[:]} {
		if slices.Min(l) < 50 {
			t.Error("too few of a sort:", phases, marks, modes, nexts, passed)
		}
	}
}

// P17.1, P17.2: the same states at other times, and of fleets with other numbers.
func TestRunsElse(t *testing.T) {
	r := rand.New(rand.NewPCG(2, 17))
	n := 0
	runs(func(m moment) {
		if n++; n%3 != 0 {
			return
		}
		for range 4 {
			m.now, m.c.Deadline, m.c.Wave = r.IntN(last+1), 1+r.IntN(60), 1+r.IntN(6)
			wantSlowOf(t, m)
			for m.c.Quota = range 5 {
				if m.now = someTime(r); book.Right(m.c, m.s) {
					wantSlowOf(t, m)
				}
			}
			m.c.Quota = 4
		}
	})
}

// P17.3.

// left is how many things are left to do: to uncordon a node; to cordon one that is to go, to take its job from it, as far as that isn't drained, to move it; to have one moved.
func left(s api.State) int {
	sum := 0
	for i, n := range s.Nodes {
		switch {
		case n.Moving:
			sum++
		case !n.Up:
		case !slowIsBehind(s, i) || slowAlone(s, i):
			if n.Cordon {
				sum++
			}
		default:
			sum += 2
			if !n.Cordon {
				sum++
			}
			if n.Job != 0 && s.Jobs[n.Job-1].Phase != api.Draining {
				sum++
			}
		}
	}
	return sum
}

// moved is an op by which a moving node gets the version that is meant, if there is such a node.
func moved(s api.State) (api.Op, bool) {
	for i, n := range s.Nodes {
		if n.Moving {
			return api.Op{Kind: api.Moved, A: i, B: slowMeant(s)}, true
		}
	}
	return api.Op{}, false
}

// excused says why all needn't be done, where nothing is next: 0 if there is no reason; it is Paused, a job is Draining, a queue's quota is met; or, which the chapter doesn't name, nodes that are down and cordoned leave no room in the wave, for Uncordon is of nodes that are up alone.
func excused(c api.Conf, s api.State) int {
	if s.Mode == api.Paused {
		return 1
	}
	for queue := range c.Queues {
		if slowDrains(s, queue) > 0 {
			return 2
		}
		if slowDrains(s, queue) == c.Quota {
			return 3
		}
	}
	for _, n := range s.Nodes {
		if n.Cordon && !n.Up && slowWave(s) >= c.Wave {
			return 4
		}
	}
	return 0
}

// turn says whose turn it is, a moving node's to be Moved, or the wave's, as long as both have something to do.
type turn func(step int) bool

var turns = []turn{
	func(int) bool { return true },
	func(int) bool { return false },
	func(step int) bool { return step%3 == 2 },
}

// wantEnds goes on by what is next, and by moving nodes that are Moved, until there is neither.
func wantEnds(t *testing.T, m moment, movedFirst turn) api.State {
	t.Helper()
	s, n := m.s, 0
	for ; ; n++ {
		o, ok := wave.Next(m.c, s, m.now)
		if x, moves := moved(s); moves && (!ok || movedFirst(n)) {
			o, ok = x, true
		}
		if !ok {
			break
		}
		x := applied(t, m.c, s, o)
		if left(x) >= left(s) {
			t.Fatal("not less left behind", ops.Text(o), s, x, "of", m)
		}
		s = x
	}
	if n > 9*m.c.Nodes {
		t.Fatal("ends by", n, "ops", m)
	}
	if !wave.Done(s) && excused(m.c, s) == 0 {
		t.Fatal("not done:", s, "behind", m)
	}
	return s
}

// wantEndsOf goes on in each order, and tells how it ended: 4 and more if all is done.
func wantEndsOf(t *testing.T, m moment) int {
	t.Helper()
	var s api.State
	for _, x := range turns {
		s = wantEnds(t, m, x)
	}
	if wave.Done(s) {
		return 5
	}
	return excused(m.c, s)
}

// P17.3: in states of runs.
func TestEnds(t *testing.T) {
	var met [6]int
	n := 0
	runs(func(m moment) {
		if n++; n%2 == 0 {
			met[wantEndsOf(t, m)]++
		}
	})
	if slices.Min(met[1:]) < 20 || met[5] < 500 {
		t.Error("too few ends:", met)
	}
}

// P17.3: in every three nodes.
func TestEndsEach(t *testing.T) {
	var met [6]int
	threes(4, func(m moment) { met[wantEndsOf(t, m)]++ })
	if slices.Min(met[1:]) < 100 {
		t.Error("too few ends:", met)
	}
}

// P17.3: without jobs, and with no node down, all is done by four ops a node, whichever versions they have, in a wave of each size; then no node is behind, cordoned or moving.
func TestEndsWithoutJobs(t *testing.T) {
	words := []string{"u1", "u2", "u3", "uc1", "uc2", "m1"}
	for l := range each(nil, len(words), len(words), len(words), len(words), 6, 2) {
		s := state([]string{"2 1 0|", "2 3 2|"}[l[5]] + words[l[0]] + " " + words[l[1]] + " " + words[l[2]] + " " + words[l[3]])
		c := fleet(4, 0, 1+l[4])
		m := moment{c, right(t, c, s), 0}
		for _, x := range turns {
			s := wantEnds(t, m, x)
			wantDone(t, s, true)
			wantBehind(t, s)
			wantWave(t, s, 0)
			if left(s) != 0 || left(m.s) > 16 {
				t.Fatal("left:", left(m.s), left(s), m)
			}
		}
	}
}

// P17.3: what the chapter excuses, and what it doesn't: no room in a wave of nodes that are down; with room, or once one is up, it goes on.
func TestStuck(t *testing.T) {
	wantRows(t, 1, 1, []row{
		{"2 1 0 | dc1 u1", nil, nothing}, {"2 1 0 | dc2 u1", nil, nothing}, {"2 1 0 | d1 u1", nil, "cordon 1"}, {"2 1 0 | uc2 u1", nil, "uncordon 0"}, {"2 1 0 | uc1 u1", nil, "move 0"},
	})
	wantRows(t, 1, 2, []row{{"2 1 0 | dc1 u1", nil, "cordon 1"}, {"2 1 0 | dc1 dc1 u1", nil, nothing}, {"2 1 0 | dc1 uc1 u1", nil, "move 1"}})
	s := state("2 1 0 | dc1 u1")
	wantDone(t, s, false)
	s = wantEnds(t, moment{fleet(2, 1, 2), s, 5}, turns[0])
	wantDone(t, s, true)
	wantWave(t, s, 1)
}

// The rules that hold everywhere.

// someStates are some of all sorts, of six nodes.
func someStates() []api.State {
	return []api.State{
		state("2 1 0 | u1 uc1:1 u1:1 d1 dc2 m1", running(1, 0), job(api.Queued, 1, 1)),
		state("2 1 0 | uc1:1 u1:2 u2 u3 u2 u2", running(1, 0), draining(1, 1), job(api.Ended, 1, 0)),
		state("2 1 2 | uc1:1 u1:2 u2 u3 u2 uc2", held(1, 0), held(1, 1)),
		state("2 1 1 | u1 u1 u1 uc1 uc1 uc1"),
		state("2 1 0 | u2 u2 u2 m2 d1 u2"),
		state("3 1 0 | uc1:1 u1 u1 u1 u1 u1", running(1, 0)),
		state("3 1 0 | uc1:1 u1 u1 u1 u1 u1", held(1, 0)),
		state("3 1 0 | u1:1 u1 u1 u1 u1 u1", running(1, 1)),
	}
}

// roomy is a state with spare room behind its lists, in which there are jobs and nodes too.
func roomy(s api.State) api.State {
	s.Jobs = append(slices.Clone(s.Jobs), running(1, 1), draining(1, 0), held(1, 3))[:len(s.Jobs)]
	s.Nodes = append(slices.Clone(s.Nodes), node("uc1:1"), node("u1:1"), node("m1"))[:len(s.Nodes)]
	return s
}

func whole[T any](l []T) []T { return l[:cap(l)] }

// Rule 4: a state that is handed in isn't changed, its spare room included, nor is what stands there asked for.
func TestHandedIn(t *testing.T) {
	for _, first := range someStates() {
		s := roomy(first)
		jobs, nodes := slices.Clone(whole(s.Jobs)), slices.Clone(whole(s.Nodes))
		for _, now := range []int{0, 5, last} {
			wantSlow(t, fleet(6, 2, 6), s, now)
			for i := range 3 {
				wantAlone(t, s, 6+i, false)
			}
		}
		if !slices.Equal(whole(s.Jobs), jobs) || !slices.Equal(whole(s.Nodes), nodes) {
			t.Error("changed:", s)
		}
	}
}

// Rule 4: the nodes that are behind are new memory, spare room and all.
func TestNewMemory(t *testing.T) {
	for _, s := range someStates() {
		a, b := wave.Behind(s), wave.Behind(s)
		for i := range whole(a) {
			whole(a)[i] = -7
		}
		if !slices.Equal(b, slowBehind(s)) {
			t.Error("shared:", b)
		}
		wantBehind(t, s, slowBehind(s)...)
	}
}

// Rule 6: what is asked of a state that is changed where it stands is answered of it as it is.
func TestChangedInPlace(t *testing.T) {
	s := state("1 2 0 | u1:1 u1:1 u1 u1", running(1, 0))
	c := fleet(4, 1, 1)
	for i, x := range []struct {
		change func()
		next   string
		behind []int
		done   bool
	}{
		{func() {}, nothing, nil, true},
		{func() { s.Goal = 2 }, "cordon 0", []int{0, 1, 2, 3}, false},
		{func() { s.Nodes[1].Cordon = true }, "shrink 1 1", []int{0, 1, 2, 3}, false},
		{func() { s.Jobs[0].Min = 2 }, "drain 1 14", []int{0, 1, 2, 3}, false},
		{func() { c.Quota = 0 }, nothing, []int{0, 1, 2, 3}, false},
		{func() { c.Wave = 2 }, "cordon 0", []int{0, 1, 2, 3}, false},
		{func() { s.Jobs[0].Phase = api.Held }, "unhold 1", []int{0, 1, 2, 3}, false},
		{func() { s.Jobs[0].Pin = 1 }, "uncordon 1", []int{0, 1, 2, 3}, false},
		{func() { s.Nodes[1].Cordon = false }, "cordon 2", []int{0, 1, 2, 3}, false},
		{func() { s.Nodes[2].Cordon, s.Nodes[2].Moving = true, true }, "cordon 3", []int{0, 1, 3}, false},
		{func() { s.Nodes[3].Up = false }, nothing, []int{0, 1}, false},
		{func() { s.Nodes[2].Cordon, s.Nodes[2].Moving = false, false }, "cordon 2", []int{0, 1, 2}, false},
		{func() { s.Nodes[2].Version = 2 }, nothing, []int{0, 1}, true},
		{func() { s.Mode, s.Prior = api.Aborted, 1 }, "cordon 2", []int{2}, false},
		{func() { s.Mode = api.Paused }, nothing, []int{0, 1}, true},
	} {
		x.change()
		wantNext(t, c, s, 5, x.next)
		wantBehind(t, s, x.behind...)
		wantDone(t, s, x.done)
		if wantSlow(t, c, s, 5); t.Failed() {
			t.Fatal("change", i)
		}
	}
}

// Rule 6: the same answers, whatever was asked between.
func TestSameAgain(t *testing.T) {
	for range 20 {
		for _, s := range someStates() {
			for _, now := range []int{0, 5, last} {
				wantSlow(t, fleet(6, 1, 2), s, now)
				wantSlow(t, fleet(6, 3, 6), s, now)
			}
		}
	}
}

// Rule 3: nil and empty lists of jobs and nodes are one.
func TestNil(t *testing.T) {
	for _, s := range []api.State{{}, {Nodes: []api.Node{}}, {Jobs: []api.Job{}}, {Nodes: []api.Node{}, Jobs: []api.Job{}}} {
		wantBehind(t, s)
		wantAlone(t, s, 0, false)
		wantWave(t, s, 0)
		wantDone(t, s, true)
		wantNext(t, fleet(1, 1, 1), s, 5, nothing)
	}
	s := state("2 1 0 | uc1 u1")
	for _, s.Jobs = range [][]api.Job{nil, {}} {
		wantNext(t, fleet(2, 1, 1), s, 5, "move 0")
	}
}

// ends waits for calls, but not for long.
func ends(t *testing.T, calls func()) {
	t.Helper()
	done := make(chan struct{})
	go func() {
		defer close(done)
		calls()
	}()
	select {
	case <-done:
	case <-time.After(60 * time.Second):
		t.Fatal("calls that don't end")
	}
}

// Rule 1: each call ends, and none panics, not even of states that may not be, and times that are none, of which nothing else is promised.
func TestNoPanic(t *testing.T) {
	odd := []int{math.MinInt, -1, 0, 1, 5, 10, 63, math.MaxInt}
	var s api.State
	for i := range 100 {
		n := odd[i%8]
		s.Nodes = append(s.Nodes, api.Node{Up: i%7 != 0, Cordon: i%5 != 0, Moving: i%11 == 0, Version: odd[i%6], Job: odd[(i+3)%8]})
		s.Jobs = append(s.Jobs, api.Job{Queue: odd[i%3], Min: odd[i%7], Max: n, Pin: odd[i%5], Phase: i%7 - 1, Nodes: n, Since: odd[(i+3)%8], Until: odd[(i+5)%8]})
	}
	ends(t, func() {
		for _, x := range []api.State{{}, s, {Nodes: s.Nodes}, {Jobs: s.Jobs}, {Nodes: s.Nodes[:7], Jobs: s.Jobs[:9], Mode: -1}, {Nodes: s.Nodes[:6], Jobs: s.Jobs[:5], Mode: api.Aborted, Prior: math.MinInt}} {
			for _, now := range odd {
				wave.Behind(x)
				wave.Wave(x)
				wave.Done(x)
				wave.Alone(x, now)
				for i := range x.Nodes {
					wave.Alone(x, i)
					y := x
					y.Nodes = x.Nodes[i:]
					for _, k := range odd {
						wave.Next(api.Conf{}, y, now)
						wave.Next(api.Conf{Nodes: k, Queues: k, Quota: k, Wave: k, Deadline: k}, y, now)
						wave.Next(fleet(6, 4, 6), y, k)
					}
				}
			}
		}
	})
}
