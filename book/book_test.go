package book_test

import (
	"math"
	"math/rand/v2"
	"slices"
	"strconv"
	"strings"
	"testing"

	"dunnage/api"
	"dunnage/book"
)

const mostNum = 1000000

// names are the kinds' of ops, from kind 1 on; counts are how many numbers each has.
var (
	names  = []string{"submit", "cancel", "target", "pause", "resume", "abort", "down", "up", "hold", "start", "unhold", "drain", "saved", "evict", "done", "cordon", "uncordon", "move", "moved", "shrink", "newterm"}
	counts = []int{6, 1, 1, 0, 0, 0, 1, 2, 2, 2, 1, 2, 2, 1, 1, 1, 1, 1, 2, 2, 0}
)

// far are numbers that are neither right ones of an op nor of anything else here.
var far = []int{math.MinInt, math.MinInt + 1, -1 << 32, -mostNum, -64, -2, -1, mostNum + 1, 1 << 21, 1<<32 + 1, 1 << 62, math.MaxInt - 1, math.MaxInt}

// fleet is one of so many nodes and queues, with that quota.
func fleet(nodes, queues, quota int) api.Conf {
	return api.Conf{Nodes: nodes, Queues: queues, Quota: quota, Wave: 2, Lease: 6, Retry: 2, Deadline: 9, Room: 500, Disk: 4000}
}

// op is that of a kind and its first numbers.
func op(kind int, l ...int) api.Op {
	o := api.Op{Kind: kind}
	for i, p := range []*int{&o.A, &o.B, &o.C, &o.D, &o.E, &o.F} {
		if i < len(l) {
			*p = l[i]
		}
	}
	return o
}

// words is the op of a kind's name and its numbers.
func words(text string) api.Op {
	l := strings.Fields(text)
	return op(1+slices.Index(names, l[0]), ints(l[1:])...)
}

func ints(l []string) []int {
	var out []int
	for _, w := range l {
		n, e := strconv.Atoi(w)
		if e != nil {
			panic(w)
		}
		out = append(out, n)
	}
	return out
}

// jobFields are a job's numbers, in their order.
func jobFields(j *api.Job) []*int {
	return []*int{&j.Queue, &j.Prio, &j.Min, &j.Max, &j.Work, &j.Pin, &j.Phase, &j.Inc, &j.Nodes, &j.Since, &j.Until, &j.Epoch}
}

// state is that of a text: goal, prior, mode and term; nodes (u for up, d for down, c for cordoned, m for moving, the version, the job behind a colon); a job's numbers, each job behind a bar.
func state(text string) api.State {
	parts := strings.Split(text, "|")
	l := ints(strings.Fields(parts[0]))
	s := api.State{Goal: l[0], Prior: l[1], Mode: l[2], Term: l[3]}
	for _, w := range strings.Fields(parts[1]) {
		s.Nodes = append(s.Nodes, node(w))
	}
	for _, p := range parts[2:] {
		var j api.Job
		for i, n := range ints(strings.Fields(p)) {
			*jobFields(&j)[i] = n
		}
		s.Jobs = append(s.Jobs, j)
	}
	return s
}

func node(word string) api.Node {
	marks, job, _ := strings.Cut(word, ":")
	n := api.Node{Up: strings.Contains(marks, "u"), Cordon: strings.Contains(marks, "c"), Moving: strings.Contains(marks, "m")}
	n.Version = ints([]string{strings.TrimLeft(marks, "udcm")})[0]
	if job != "" {
		n.Job = ints([]string{job})[0]
	}
	return n
}

func same(a, b api.State) bool {
	return slices.Equal(a.Nodes, b.Nodes) && slices.Equal(a.Jobs, b.Jobs) && a.Goal == b.Goal && a.Prior == b.Prior && a.Mode == b.Mode && a.Term == b.Term
}

func isZero(s api.State) bool { return same(s, api.State{}) }

// apart is the same state, of this file's own making.
func apart(s api.State) api.State {
	t := s
	t.Nodes, t.Jobs = nil, nil
	for _, n := range s.Nodes {
		t.Nodes = append(t.Nodes, n)
	}
	for _, j := range s.Jobs {
		t.Jobs = append(t.Jobs, j)
	}
	return t
}

// A slow reading of the chapter's words.

func from(n, least, most int) bool { return least <= n && n <= most }

// fleetWords are the least and the greatest of a fleet's numbers, in their order.
var fleetWords = [][2]int{{1, 6}, {1, 3}, {0, 4}, {1, 6}, {2, 30}, {1, 20}, {1, 60}, {0, 5000}, {2000, 40000}}

func fleetFields(c *api.Conf) []*int {
	return []*int{&c.Nodes, &c.Queues, &c.Quota, &c.Wave, &c.Lease, &c.Retry, &c.Deadline, &c.Room, &c.Disk}
}

func slowMay(c api.Conf) bool {
	for i, p := range fleetFields(&c) {
		if !from(*p, fleetWords[i][0], fleetWords[i][1]) {
			return false
		}
	}
	return true
}

func slowOp(o api.Op) bool {
	if !from(o.Kind, 1, 21) {
		return false
	}
	for i, n := range []int{o.A, o.B, o.C, o.D, o.E, o.F} {
		if !from(n, 0, mostNum) || i >= counts[o.Kind-1] && n != 0 {
			return false
		}
	}
	return true
}

// bitsOf are the numbers of a set's nodes; one of 60 stands for all that is none.
func bitsOf(set int) []int {
	var l []int
	for i := range 6 {
		if set&(1<<i) != 0 {
			l = append(l, i)
		}
	}
	if set < 0 || set > 63 {
		l = append(l, 60)
	}
	return l
}

func slowAsked(c api.Conf, queue, prio, least, most, work, pin int) bool {
	return from(queue, 0, c.Queues-1) && from(prio, 0, 9) && 1 <= least && least <= most && most <= c.Nodes && from(work, 1, 1000) && from(pin, 0, 9)
}

// oneVersion says whether all of these nodes are of one version, which is the pin, if that isn't 0.
func oneVersion(s api.State, l []int, pin int) bool {
	for _, i := range l {
		if s.Nodes[i].Version != s.Nodes[l[0]].Version || pin != 0 && s.Nodes[i].Version != pin {
			return false
		}
	}
	return true
}

func slowJob(c api.Conf, s api.State, number int) bool {
	j := s.Jobs[number-1]
	if !slowAsked(c, j.Queue, j.Prio, j.Min, j.Max, j.Work, j.Pin) || !from(j.Phase, 0, 4) {
		return false
	}
	for _, n := range []int{j.Inc, j.Since, j.Until} {
		if !from(n, 0, mostNum) {
			return false
		}
	}
	if !from(j.Epoch, 0, j.Inc) {
		return false
	}
	l := bitsOf(j.Nodes)
	if j.Phase == 0 || j.Phase == 4 {
		return len(l) == 0
	}
	if len(l) < j.Min || len(l) > j.Max {
		return false
	}
	for _, i := range l {
		if i >= len(s.Nodes) || !s.Nodes[i].Up || s.Nodes[i].Moving || s.Nodes[i].Job != number {
			return false
		}
	}
	return oneVersion(s, l, j.Pin)
}

func slowNode(s api.State, i int) bool {
	n := s.Nodes[i]
	if n.Job != 0 && (n.Job < 0 || n.Job > len(s.Jobs) || !slices.Contains(bitsOf(s.Jobs[n.Job-1].Nodes), i)) {
		return false
	}
	if n.Moving && !(n.Up && n.Cordon && n.Job == 0) {
		return false
	}
	return from(n.Version, 1, 9)
}

func slowRight(c api.Conf, s api.State) bool {
	if !slowMay(c) || len(s.Nodes) != c.Nodes || len(s.Jobs) > 24 {
		return false
	}
	drains := map[int]int{}
	for k, j := range s.Jobs {
		if !slowJob(c, s, k+1) {
			return false
		}
		if j.Phase == 3 {
			drains[j.Queue]++
		}
	}
	for _, n := range drains {
		if n > c.Quota {
			return false
		}
	}
	for i := range s.Nodes {
		if !slowNode(s, i) {
			return false
		}
	}
	return from(s.Goal, 1, 9) && from(s.Prior, 1, 9) && from(s.Mode, 0, 2) && from(s.Term, 0, mostNum)
}

// slowNew is the first state.
func slowNew(c api.Conf) api.State {
	return state("1 1 0 0 |" + strings.Repeat(" u1", c.Nodes))
}

// hosts are a job's nodes, as the nodes say.
func hosts(s api.State, job int) []int {
	var l []int
	for i, n := range s.Nodes {
		if n.Job == job {
			l = append(l, i)
		}
	}
	return l
}

// slowLet lets a job go.
func slowLet(s *api.State, job, phase int) {
	for _, i := range hosts(*s, job) {
		s.Nodes[i].Job = 0
	}
	s.Jobs[job-1].Phase, s.Jobs[job-1].Since, s.Jobs[job-1].Until = phase, 0, 0
}

func slowDrains(s api.State, queue int) int {
	n := 0
	for _, j := range s.Jobs {
		if j.Phase == 3 && j.Queue == queue {
			n++
		}
	}
	return n
}

// ofJobs and ofNodes are the kinds whose first number is one of a job, of a node.
var (
	ofJobs  = []int{2, 9, 10, 11, 12, 13, 14, 15, 20}
	ofNodes = []int{7, 8, 16, 17, 18, 19}
)

// slowApply does an op as the words say: who has a node is read from the nodes, and told of the jobs behind the op.
func slowApply(c api.Conf, s api.State, o api.Op) (api.State, api.Errno) {
	if !slowRight(c, s) {
		return api.State{}, 1
	}
	t := apart(s)
	e := slowDo(c, &t, o)
	if e != 0 {
		return apart(s), e
	}
	for k := range t.Jobs {
		t.Jobs[k].Nodes = 0
		for _, i := range hosts(t, k+1) {
			t.Jobs[k].Nodes += 1 << i
		}
	}
	return t, 0
}

func slowDo(c api.Conf, s *api.State, o api.Op) api.Errno {
	if !slowOp(o) {
		return 1
	}
	if slices.Contains(ofJobs, o.Kind) {
		if o.A < 1 || o.A > len(s.Jobs) || o.Kind == 20 && o.B >= c.Nodes {
			return 4
		}
		return slowJobs(c, s, o, &s.Jobs[o.A-1])
	}
	if slices.Contains(ofNodes, o.Kind) {
		if o.A >= c.Nodes {
			return 4
		}
		return slowNodes(s, o, &s.Nodes[o.A])
	}
	return slowOthers(c, s, o)
}

func slowOthers(c api.Conf, s *api.State, o api.Op) api.Errno {
	switch names[o.Kind-1] {
	case "submit":
		if !slowAsked(c, o.A, o.B, o.C, o.D, o.E, o.F) {
			return 1
		}
		if len(s.Jobs) >= 24 {
			return 3
		}
		s.Jobs = append(s.Jobs, api.Job{Queue: o.A, Prio: o.B, Min: o.C, Max: o.D, Work: o.E, Pin: o.F})
	case "target":
		if !from(o.A, 1, 9) {
			return 1
		}
		if s.Mode != 2 {
			s.Prior = s.Goal
		}
		s.Goal, s.Mode = o.A, 0
	case "pause":
		if s.Mode != 0 {
			return 5
		}
		s.Mode = 1
	case "resume":
		if s.Mode != 1 {
			return 5
		}
		s.Mode = 0
	case "abort":
		if s.Mode == 2 {
			return 5
		}
		s.Mode = 2
	case "newterm":
		if s.Term == mostNum {
			return 3
		}
		s.Term++
	}
	return 0
}

// slowPhases are those that a job must be in for an op.
var slowPhases = map[string][]int{"cancel": {0, 1, 2, 3}, "hold": {0}, "start": {1}, "unhold": {1}, "drain": {2}, "saved": {2, 3}, "evict": {3}, "done": {2, 3}, "shrink": {2}}

func slowJobs(c api.Conf, s *api.State, o api.Op, j *api.Job) api.Errno {
	name := names[o.Kind-1]
	if !slices.Contains(slowPhases[name], j.Phase) {
		return 5
	}
	switch name {
	case "cancel", "done":
		slowLet(s, o.A, 4)
	case "unhold", "evict":
		slowLet(s, o.A, 0)
	case "hold":
		return slowHold(s, o, j)
	case "start":
		j.Phase, j.Since = 2, o.B
	case "drain":
		if slowDrains(*s, j.Queue) >= c.Quota {
			return 7
		}
		j.Phase, j.Until = 3, o.B
	case "saved":
		if o.B != j.Inc || o.B <= j.Epoch {
			return 6
		}
		j.Epoch = o.B
	case "shrink":
		if s.Nodes[o.B].Job != o.A || len(hosts(*s, o.A)) <= j.Min {
			return 8
		}
		s.Nodes[o.B].Job = 0
	}
	return 0
}

func slowHold(s *api.State, o api.Op, j *api.Job) api.Errno {
	l := bitsOf(o.B)
	if len(l) < j.Min || len(l) > j.Max || j.Inc >= mostNum {
		return 8
	}
	for _, i := range l {
		if i >= len(s.Nodes) || !s.Nodes[i].Up || s.Nodes[i].Cordon || s.Nodes[i].Moving || s.Nodes[i].Job != 0 {
			return 8
		}
	}
	if !oneVersion(*s, l, j.Pin) {
		return 8
	}
	j.Phase, j.Inc = 1, j.Inc+1
	for _, i := range l {
		s.Nodes[i].Job = o.A
	}
	return 0
}

func slowNodes(s *api.State, o api.Op, n *api.Node) api.Errno {
	name := names[o.Kind-1]
	if (name == "up" || name == "moved") && !from(o.B, 1, 9) {
		return 1
	}
	may := map[string]bool{"down": n.Up, "up": !n.Up, "cordon": n.Up && !n.Cordon, "uncordon": n.Cordon && !n.Moving, "move": n.Up && n.Cordon && !n.Moving && n.Job == 0, "moved": n.Moving}
	if !may[name] {
		return 5
	}
	switch name {
	case "down":
		if n.Job != 0 {
			slowLet(s, n.Job, 0)
		}
		n.Up, n.Moving = false, false
	case "up":
		n.Up, n.Version = true, o.B
	case "cordon":
		n.Cordon = true
	case "uncordon":
		n.Cordon = false
	case "move":
		n.Moving = true
	case "moved":
		n.Version, n.Moving, n.Cordon = o.B, false, false
	}
	return 0
}

// States and ops to try.

// someState is one that may be of a fleet, also such as no ops lead to.
func someState(r *rand.Rand, c api.Conf) api.State {
	s := api.State{Goal: 1 + r.IntN(9), Prior: 1 + r.IntN(9), Mode: r.IntN(3), Term: someNumber(r)}
	versions := 1 + r.IntN(3)
	for range c.Nodes {
		n := api.Node{Up: r.IntN(5) > 0, Cordon: r.IntN(3) == 0, Version: 1 + r.IntN(versions)}
		n.Moving = n.Up && n.Cordon && r.IntN(2) == 0
		s.Nodes = append(s.Nodes, n)
	}
	for range []int{0, 1, 2, 3, 4, 6, 12, 23, 24}[r.IntN(9)] {
		s.Jobs = append(s.Jobs, someJob(r, c))
	}
	for k := range s.Jobs {
		host(r, c, &s, k+1)
	}
	return s
}

func someNumber(r *rand.Rand) int {
	return []int{0, 1, 2, 3, 7, 999, mostNum - 2, mostNum - 1, mostNum}[r.IntN(9)]
}

// someJob is one that is Queued or Ended.
func someJob(r *rand.Rand, c api.Conf) api.Job {
	j := api.Job{Queue: r.IntN(c.Queues), Prio: r.IntN(10), Max: 1 + r.IntN(c.Nodes), Work: 1 + r.IntN(1000), Phase: 4 * r.IntN(2)}
	j.Min = 1 + r.IntN(j.Max)
	j.Pin = []int{0, 0, 0, 1, 2, 9}[r.IntN(6)]
	j.Inc, j.Since, j.Until = someNumber(r), someNumber(r), someNumber(r)
	j.Epoch = []int{0, j.Inc / 2, max(0, j.Inc-1), j.Inc}[r.IntN(4)]
	return j
}

// host gives nodes to a job, if it may have them, and makes it Held, Running or Draining.
func host(r *rand.Rand, c api.Conf, s *api.State, job int) {
	j := &s.Jobs[job-1]
	var l []int
	for _, i := range r.Perm(len(s.Nodes)) {
		n := s.Nodes[i]
		if n.Up && !n.Moving && n.Job == 0 && len(l) < j.Max && oneVersion(*s, append(slices.Clone(l), i), j.Pin) {
			l = append(l, i)
		}
	}
	if len(l) < j.Min || r.IntN(4) == 0 {
		return
	}
	l = l[:j.Min+r.IntN(len(l)-j.Min+1)]
	j.Phase = 1 + r.IntN(3)
	if j.Phase == 3 && slowDrains(*s, j.Queue) > c.Quota {
		j.Phase = 2
	}
	for _, i := range l {
		s.Nodes[i].Job = job
		j.Nodes += 1 << i
	}
}

// someOps are those of a state whose numbers are near what it asks for.
func someOps(r *rand.Rand, c api.Conf, s api.State) []api.Op {
	l := []api.Op{op(4), op(5), op(6), op(21)}
	for version := range 11 {
		l = append(l, op(3, version))
	}
	l = append(l, submits(r, c)...)
	for _, i := range []int{0, 1, 2, 3, 4, 5, 6, 7, 64, mostNum} {
		for _, kind := range []int{7, 16, 17, 18} {
			l = append(l, op(kind, i))
		}
		for _, version := range []int{0, 1, 2, 9, 10, mostNum} {
			l = append(l, op(8, i, version), op(19, i, version))
		}
	}
	for _, job := range jobsToTry(r, s) {
		l = append(l, jobOps(r, c, s, job)...)
	}
	return append(l, wrongOps(r)...)
}

// submits are those with all numbers right, and each of them at its edges.
func submits(r *rand.Rand, c api.Conf) []api.Op {
	l := []api.Op{op(1, 0, 0, 1, 1, 1, 0), op(1, c.Queues-1, 9, c.Nodes, c.Nodes, 1000, 9)}
	most := 1 + r.IntN(c.Nodes)
	right := []int{r.IntN(c.Queues), r.IntN(10), 1 + r.IntN(most), most, 1 + r.IntN(1000), r.IntN(10)}
	for i, edges := range [][]int{{0, 1, 2, 3}, {0, 9, 10}, {0, 1, most - 1, most, most + 1}, {0, c.Nodes - 1, c.Nodes, c.Nodes + 1, 7}, {0, 1, 2, 999, 1000, 1001}, {0, 9, 10}} {
		for _, n := range append(edges, mostNum) {
			x := slices.Clone(right)
			x[i] = max(0, n)
			l = append(l, op(1, x...))
		}
	}
	return l
}

// jobsToTry are numbers that are none, and at most four that are some.
func jobsToTry(r *rand.Rand, s api.State) []int {
	l := []int{0, len(s.Jobs) + 1, mostNum}
	for _, k := range r.Perm(len(s.Jobs)) {
		if len(l) < 7 {
			l = append(l, k+1)
		}
	}
	for k, j := range s.Jobs {
		if j.Nodes != 0 && !slices.Contains(l, k+1) {
			l = append(l, k+1)
		}
	}
	return l
}

func jobOps(r *rand.Rand, c api.Conf, s api.State, job int) []api.Op {
	l := []api.Op{op(2, job), op(11, job), op(14, job), op(15, job)}
	for _, n := range []int{0, 1, r.IntN(mostNum), mostNum} {
		l = append(l, op(10, job, n), op(12, job, n), op(13, job, n))
	}
	if job >= 1 && job <= len(s.Jobs) {
		j := s.Jobs[job-1]
		for _, n := range []int{j.Inc - 1, j.Inc, j.Inc + 1, j.Epoch - 1, j.Epoch, j.Epoch + 1} {
			l = append(l, op(13, job, n))
		}
	}
	for set := range 1<<c.Nodes + 2 {
		l = append(l, op(9, job, set))
	}
	l = append(l, op(9, job, 64), op(9, job, 65), op(9, job, 1<<19+1), op(9, job, mostNum))
	for _, i := range []int{0, 1, 2, 3, 4, 5, 6, 7, 63, 64, 65, mostNum} {
		l = append(l, op(20, job, i))
	}
	return l
}

// wrongOps aren't right: of no kind, with a number that is none, or one more than they have.
func wrongOps(r *rand.Rand) []api.Op {
	var l []api.Op
	for _, kind := range []int{math.MinInt, -1, 0, 22, 23, 256 + 4, 1<<32 + 4, math.MaxInt} {
		l = append(l, op(kind), op(kind, 1), op(kind, 1, 1))
	}
	for kind := 1; kind <= 21; kind++ {
		for i := range 6 {
			x := []int{1, 1, 1, 1, 1, 1}
			for k := counts[kind-1]; k < 6; k++ {
				x[k] = 0
			}
			x[i] = far[r.IntN(len(far))]
			if i >= counts[kind-1] {
				x[i] = 1
			}
			l = append(l, op(kind, x...))
		}
	}
	return l
}

func newRand(seed uint64) *rand.Rand { return rand.New(rand.NewPCG(seed, 9)) }

// someFleet is one that may be.
func someFleet(r *rand.Rand) api.Conf {
	return fleet(1+r.IntN(6), 1+r.IntN(3), r.IntN(5))
}

// P9.1: fleets.

func TestMay(t *testing.T) {
	least, most := api.Conf{}, api.Conf{}
	for i := range fleetWords {
		*fleetFields(&least)[i], *fleetFields(&most)[i] = fleetWords[i][0], fleetWords[i][1]
	}
	for _, base := range []api.Conf{least, most, fleet(3, 2, 1)} {
		if !book.May(base) {
			t.Error("may be", base)
		}
		for i, x := range fleetWords {
			c := base
			p := fleetFields(&c)[i]
			for _, n := range []int{x[0], x[0] + 1, (x[0] + x[1]) / 2, x[1] - 1, x[1]} {
				if *p = n; !book.May(c) {
					t.Error("may be", i, c)
				}
			}
			for _, n := range append([]int{x[0] - 1, x[1] + 1, -x[0] - 1, x[1] + 256, x[0] + 1<<32}, far...) {
				if *p = n; book.May(c) {
					t.Error("may not be", i, c)
				}
			}
		}
	}
	if book.May(api.Conf{}) {
		t.Error("a zero fleet")
	}
}

// P9.1: fleets whose nodes and queues, or any two numbers, are changed.
func TestMayTwo(t *testing.T) {
	for i := range fleetWords {
		for k := range i {
			for _, n := range []int{fleetWords[i][0] - 1, fleetWords[i][0], fleetWords[i][1], fleetWords[i][1] + 1} {
				for _, m := range []int{fleetWords[k][0] - 1, fleetWords[k][0], fleetWords[k][1], fleetWords[k][1] + 1} {
					c := fleet(4, 2, 1)
					*fleetFields(&c)[i], *fleetFields(&c)[k] = n, m
					if book.May(c) != slowMay(c) {
						t.Error(c)
					}
				}
			}
		}
	}
}

// P9.1: the first state, written out.
func TestNew(t *testing.T) {
	one := api.State{Nodes: []api.Node{{Up: true, Version: 1}}, Goal: 1, Prior: 1}
	if s := book.New(fleet(1, 1, 0)); !same(s, one) {
		t.Error(s)
	}
	three := api.State{Nodes: []api.Node{{Up: true, Version: 1}, {Up: true, Version: 1}, {Up: true, Version: 1}}, Goal: 1, Prior: 1}
	if s := book.New(fleet(3, 3, 4)); !same(s, three) {
		t.Error(s)
	}
	for n := 1; n <= 6; n++ {
		s := book.New(fleet(n, 2, 1))
		if len(s.Nodes) != n || len(s.Jobs) != 0 || !same(s, slowNew(fleet(n, 2, 1))) || book.Meant(s) != 1 {
			t.Error(n, s)
		}
		for _, x := range s.Nodes {
			if !book.Free(x) {
				t.Error(n, x)
			}
		}
	}
}

// P9.1: nothing of a fleet that may not be.
func TestNewOfNoFleet(t *testing.T) {
	for i, x := range fleetWords {
		for _, n := range []int{x[0] - 1, x[1] + 1, math.MinInt, math.MaxInt} {
			c := fleet(2, 2, 1)
			*fleetFields(&c)[i] = n
			if s := book.New(c); !isZero(s) {
				t.Error(c, s)
			}
			if book.Right(c, state("1 1 0 0 | u1 u1")) {
				t.Error("a state of", c)
			}
		}
	}
	if !isZero(book.New(api.Conf{})) {
		t.Error("of a zero fleet")
	}
}

// P9.1: states.

// full is a state of fleet(6, 2, 1) with jobs of all phases.
const full = "3 2 1 7 | u1:2 uc1:2 u2:3 uc2:4 ucm1 dc3" +
	"| 0 9 1 6 1000 0 0 0 0 0 0 0" +
	"| 1 0 2 2 1 1 1 1 3 0 0 0" +
	"| 1 5 1 3 10 0 2 4 4 20 0 3" +
	"| 0 5 1 1 10 2 3 5 8 21 30 5" +
	"| 0 0 6 6 9 9 4 2 0 0 0 1"

// P9.1: states that may be, at the edges of each number.
func TestRight(t *testing.T) {
	c := fleet(6, 2, 1)
	for i, x := range []func(s *api.State){
		func(s *api.State) {},
		func(s *api.State) { s.Goal, s.Prior = 1, 9 },
		func(s *api.State) { s.Goal, s.Prior = 9, 1 },
		func(s *api.State) { s.Mode, s.Term = 0, 0 },
		func(s *api.State) { s.Mode, s.Term = 2, mostNum },
		func(s *api.State) { s.Jobs[0].Since, s.Jobs[0].Until = mostNum, mostNum },
		func(s *api.State) { s.Jobs[0].Inc, s.Jobs[0].Epoch = mostNum, mostNum },
		func(s *api.State) { s.Jobs[0].Inc, s.Jobs[0].Epoch = mostNum, 0 },
		func(s *api.State) { s.Jobs[1].Inc = 0 },
		func(s *api.State) { s.Jobs[1].Since, s.Jobs[1].Until = 3, 2 },
		func(s *api.State) { s.Jobs[4].Since, s.Jobs[4].Until = 3, 2 },
		func(s *api.State) { s.Jobs[0].Queue, s.Jobs[0].Prio, s.Jobs[0].Pin = 1, 0, 9 },
		func(s *api.State) { s.Jobs[0].Min, s.Jobs[0].Max, s.Jobs[0].Work = 6, 6, 1 },
		func(s *api.State) { s.Jobs[0].Min, s.Jobs[0].Max = 1, 1 },
		func(s *api.State) { s.Jobs[0].Phase = 4 },
		func(s *api.State) { s.Jobs[4].Phase = 0 },
		func(s *api.State) { s.Jobs[2].Phase = 3 },
		func(s *api.State) { s.Jobs[3].Phase = 1 },
		func(s *api.State) { s.Jobs[3].Phase = 2 },
		func(s *api.State) { s.Nodes[5] = api.Node{Version: 9} },
		func(s *api.State) { s.Nodes[5] = api.Node{Up: true, Version: 1} },
		func(s *api.State) { s.Nodes[4].Moving = false },
		func(s *api.State) { s.Nodes[0].Cordon, s.Nodes[1].Cordon, s.Nodes[2].Cordon = true, false, true },
		func(s *api.State) { s.Nodes[2].Version = 9 },
		func(s *api.State) { s.Jobs[1].Pin = 0 },
		func(s *api.State) { s.Jobs[1].Max = 6 },
		func(s *api.State) { s.Jobs = slices.Repeat(s.Jobs[:1], 24); clearJobs(s) },
		func(s *api.State) { s.Jobs = nil; clearJobs(s) },
		func(s *api.State) { s.Jobs = []api.Job{}; clearJobs(s) },
	} {
		s := state(full)
		x(&s)
		if !book.Right(c, s) || !slowRight(c, s) {
			t.Error("may be", i, s)
		}
	}
}

// clearJobs leaves no node a job.
func clearJobs(s *api.State) {
	for i := range s.Nodes {
		s.Nodes[i].Job = 0
	}
}

// mayNot holds that full may not be any more behind each of these, and that no op is done to it then.
func mayNot(t *testing.T, l []func(s *api.State)) {
	t.Helper()
	c := fleet(6, 2, 1)
	for i, x := range l {
		s := state(full)
		x(&s)
		if book.Right(c, s) || slowRight(c, s) {
			t.Error("may not be", i, s)
		}
		for _, o := range []api.Op{op(api.Newterm), op(0)} { // P9.2: right, or not
			if y, e := book.Apply(c, s, o); e != api.ErrArg || !isZero(y) {
				t.Error("applied", i, o, y, e)
			}
		}
	}
}

// P9.1: states that may not be, each in one way: its own numbers, and its nodes.
func TestNotRight(t *testing.T) {
	mayNot(t, []func(s *api.State){
		func(s *api.State) { s.Goal = 0 },
		func(s *api.State) { s.Goal = 10 },
		func(s *api.State) { s.Prior = 0 },
		func(s *api.State) { s.Prior = 10 },
		func(s *api.State) { s.Mode = -1 },
		func(s *api.State) { s.Mode = 3 },
		func(s *api.State) { s.Term = -1 },
		func(s *api.State) { s.Term = mostNum + 1 },
		func(s *api.State) { s.Nodes = s.Nodes[:5] },
		func(s *api.State) { s.Nodes = append(s.Nodes, api.Node{Up: true, Version: 1}) },
		func(s *api.State) { s.Nodes, s.Jobs = nil, nil },
		func(s *api.State) { s.Nodes, s.Jobs = []api.Node{}, []api.Job{} },
		func(s *api.State) { s.Jobs = nil },
		func(s *api.State) { s.Jobs = s.Jobs[:3] },
		func(s *api.State) { s.Jobs = slices.Repeat(s.Jobs[:1], 25); clearJobs(s) },
		func(s *api.State) { s.Nodes[0].Version, s.Nodes[1].Version, s.Jobs[1].Pin = 0, 0, 0 },
		func(s *api.State) { s.Nodes[2].Version = 10 },
		func(s *api.State) { s.Nodes[5].Version = 0 },
		func(s *api.State) { s.Nodes[5].Version = 10 },
		func(s *api.State) { s.Nodes[5].Version = -1 },
		func(s *api.State) { s.Nodes[5].Job = 1 },
		func(s *api.State) { s.Nodes[5].Job = 3 },
		func(s *api.State) { s.Nodes[5].Job = 5 },
		func(s *api.State) { s.Nodes[5].Job = 6 },
		func(s *api.State) { s.Nodes[5].Job = -1 },
		func(s *api.State) { s.Nodes[5].Job = math.MinInt },
		func(s *api.State) { s.Nodes[5].Job = math.MaxInt },
		func(s *api.State) { s.Nodes[5].Moving = true },
		func(s *api.State) { s.Nodes[4].Cordon = false },
		func(s *api.State) { s.Nodes[4].Up = false },
		func(s *api.State) { s.Nodes[4].Job, s.Jobs[2].Nodes = 3, 4+16 },
		func(s *api.State) { s.Nodes[0].Up = false },
		func(s *api.State) { s.Nodes[1].Moving = true },
		func(s *api.State) { s.Nodes[0].Job = 0 },
		func(s *api.State) { s.Nodes[0].Job = 3 },
		func(s *api.State) { s.Nodes[2].Job = 2 },
	})
}

// P9.1: states that may not be, each in one way: jobs' phases, and the nodes that they have.
func TestNotRightNodes(t *testing.T) {
	mayNot(t, []func(s *api.State){
		func(s *api.State) { s.Nodes[1].Version, s.Jobs[1].Pin = 2, 0 },
		func(s *api.State) { s.Jobs[1].Pin = 2 },
		func(s *api.State) { s.Jobs[3].Pin = 1 },
		func(s *api.State) { s.Jobs[3].Pin = 9 },
		func(s *api.State) { s.Jobs[1].Min = 1; s.Jobs[1].Max = 1 },
		func(s *api.State) { s.Jobs[2].Min = 2 },
		func(s *api.State) { s.Jobs[2].Nodes = 0; s.Nodes[2].Job = 0 },
		func(s *api.State) { s.Jobs[2].Nodes = 4 + 64 },
		func(s *api.State) { s.Jobs[2].Nodes = 4 + 1<<40 },
		func(s *api.State) { s.Jobs[2].Nodes = 4 + math.MinInt },
		func(s *api.State) { s.Jobs[2].Nodes = -60 },
		func(s *api.State) { s.Jobs[2].Nodes = 4 + 8 },
		func(s *api.State) { s.Jobs[2].Nodes = 8 },
		func(s *api.State) { s.Jobs[2].Phase = 0 },
		func(s *api.State) { s.Jobs[2].Phase = 4 },
		func(s *api.State) { s.Jobs[2].Phase = -1 },
		func(s *api.State) { s.Jobs[2].Phase = 5 },
		func(s *api.State) { s.Jobs[0].Phase = -1 },
		func(s *api.State) { s.Jobs[0].Phase = 5 },
		func(s *api.State) { s.Jobs[0].Phase = 1 },
		func(s *api.State) { s.Jobs[0].Phase = 2 },
		func(s *api.State) { s.Jobs[4].Phase = 3 },
		func(s *api.State) { s.Jobs[0].Nodes = 1 },
		func(s *api.State) { s.Jobs[0].Nodes = 64 },
		func(s *api.State) { s.Jobs[0].Nodes = math.MinInt },
		func(s *api.State) { s.Jobs[4].Nodes = 32 },
		func(s *api.State) { s.Jobs[4].Nodes, s.Nodes[5].Job = 32, 5 },
		func(s *api.State) { s.Jobs[0].Nodes, s.Nodes[5].Job = 32, 1 },
	})
}

// P9.1: states that may not be, each in one way: jobs' numbers.
func TestNotRightNumbers(t *testing.T) {
	mayNot(t, []func(s *api.State){
		func(s *api.State) { s.Jobs[0].Queue = -1 },
		func(s *api.State) { s.Jobs[0].Queue = 2 },
		func(s *api.State) { s.Jobs[0].Prio = -1 },
		func(s *api.State) { s.Jobs[0].Prio = 10 },
		func(s *api.State) { s.Jobs[0].Min = 0 },
		func(s *api.State) { s.Jobs[0].Min = -1 },
		func(s *api.State) { s.Jobs[0].Min = 7 },
		func(s *api.State) { s.Jobs[0].Min, s.Jobs[0].Max = 3, 2 },
		func(s *api.State) { s.Jobs[0].Max = 0 },
		func(s *api.State) { s.Jobs[0].Max = 7 },
		func(s *api.State) { s.Jobs[0].Work = 0 },
		func(s *api.State) { s.Jobs[0].Work = 1001 },
		func(s *api.State) { s.Jobs[0].Pin = -1 },
		func(s *api.State) { s.Jobs[0].Pin = 10 },
		func(s *api.State) { s.Jobs[0].Inc = -1 },
		func(s *api.State) { s.Jobs[0].Inc, s.Jobs[0].Epoch = -1, -1 },
		func(s *api.State) { s.Jobs[0].Inc = mostNum + 1 },
		func(s *api.State) { s.Jobs[0].Since = -1 },
		func(s *api.State) { s.Jobs[0].Since = mostNum + 1 },
		func(s *api.State) { s.Jobs[0].Until = -1 },
		func(s *api.State) { s.Jobs[0].Until = mostNum + 1 },
		func(s *api.State) { s.Jobs[0].Epoch = 1 },
		func(s *api.State) { s.Jobs[0].Epoch = -1 },
		func(s *api.State) { s.Jobs[3].Epoch = 6 },
		func(s *api.State) { s.Jobs[4].Epoch = 3 },
		func(s *api.State) { s.Jobs[2].Phase, s.Jobs[2].Queue = 3, 0 },
	})
}

// P9.1: states of other fleets.
func TestRightOfFleets(t *testing.T) {
	s := state(full)
	for i, x := range []struct {
		c    api.Conf
		want bool
	}{
		{fleet(6, 2, 1), true}, {fleet(6, 3, 1), true}, {fleet(6, 2, 4), true}, {fleet(6, 1, 1), false}, {fleet(6, 2, 0), false}, {fleet(5, 2, 1), false}, {fleet(1, 2, 1), false}, {fleet(7, 2, 1), false}, {fleet(6, 4, 1), false}, {fleet(6, 2, 5), false}, {fleet(6, 0, 1), false}, {fleet(6, 2, -1), false}, {api.Conf{}, false},
	} {
		if book.Right(x.c, s) != x.want {
			t.Error(i, x.c)
		}
		if y, e := book.Apply(x.c, s, op(api.Newterm)); x.want != (e == api.OK) || !x.want && (e != api.ErrArg || !isZero(y)) {
			t.Error(i, y, e)
		}
	}
	for n := 1; n <= 6; n++ {
		for m := 1; m <= 6; m++ {
			if book.Right(fleet(m, 1, 0), book.New(fleet(n, 1, 0))) != (n == m) {
				t.Error("the first state of", n, "nodes, of", m)
			}
		}
	}
	drains := state("1 1 0 0 | u1:1 u1:2 u1:3 u1:4 u1 u1 | 0 0 1 1 1 0 3 1 1 0 0 0 | 0 0 1 1 1 0 3 1 2 0 0 0 | 0 0 1 1 1 0 3 1 4 0 0 0 | 1 0 1 1 1 0 3 1 8 0 0 0")
	for quota := range 5 {
		if book.Right(fleet(6, 2, quota), drains) != (quota >= 3) {
			t.Error("three drains, quota", quota)
		}
	}
}

// P9.1: states with one or two numbers changed, by a slow reading of the words.
func TestRightChanged(t *testing.T) {
	r := newRand(1)
	seen := map[bool]int{}
	for range 60000 {
		c := someFleet(r)
		s := someState(r, c)
		for range r.IntN(3) {
			change(r, &s)
		}
		want := slowRight(c, s)
		seen[want]++
		if book.Right(c, s) != want {
			t.Fatal(c, s, want)
		}
	}
	if seen[true] < 15000 || seen[false] < 15000 {
		t.Error(seen)
	}
}

// change gives one number of a state, or one of its marks, another value.
func change(r *rand.Rand, s *api.State) {
	near := func(n int) int {
		return []int{0, 1, n - 1, n + 1, n ^ 1, n ^ 2, n ^ 16, 9, 10, mostNum, mostNum + 1, -1}[r.IntN(12)]
	}
	switch k := r.IntN(8); {
	case k == 0:
		p := []*int{&s.Goal, &s.Prior, &s.Mode, &s.Term}[r.IntN(4)]
		*p = near(*p)
	case k <= 3:
		n := &s.Nodes[r.IntN(len(s.Nodes))]
		switch r.IntN(5) {
		case 0:
			n.Up = !n.Up
		case 1:
			n.Cordon = !n.Cordon
		case 2:
			n.Moving = !n.Moving
		case 3:
			n.Version = near(n.Version)
		case 4:
			n.Job = near(n.Job)
		}
	case len(s.Jobs) > 0:
		p := jobFields(&s.Jobs[r.IntN(len(s.Jobs))])[r.IntN(12)]
		*p = near(*p)
	}
}

// P9.2: what is done, written out.

// step is an op's words, the error, and the state behind it ("": as it was).
type step struct {
	op   string
	e    api.Errno
	want string
}

// play does steps, one behind the other, from a state on.
func play(t *testing.T, c api.Conf, start string, l []step) {
	t.Helper()
	s := state(start)
	for i, x := range l {
		want := s
		if x.want != "" {
			want = state(x.want)
		}
		y, e := book.Apply(c, s, words(x.op))
		if e != x.e || !same(y, want) || (x.e == api.OK) == (x.want == "") {
			t.Errorf("step %d, %s: %d\n%v\nwant %d\n%v", i, x.op, e, y, x.e, want)
		}
		s = want
	}
}

// P9.2: the chapter's example.
func TestExample(t *testing.T) {
	play(t, fleet(2, 1, 1), "1 1 0 0 | u1 u1", []step{
		{"submit 0 0 2 2 5 0", 0, "1 1 0 0 | u1 u1 | 0 0 2 2 5 0 0 0 0 0 0 0"},
		{"hold 1 3", 0, "1 1 0 0 | u1:1 u1:1 | 0 0 2 2 5 0 1 1 3 0 0 0"},
		{"hold 1 3", 5, ""},
	})
}

// P9.2: a job's way, and back, in a fleet of six.
func TestJobsWay(t *testing.T) {
	play(t, fleet(6, 2, 1), "1 1 0 0 | u1 u1 u1 u2 u2 u1", []step{
		{"submit 1 9 1 6 1000 9", 0, "1 1 0 0 | u1 u1 u1 u2 u2 u1 | 1 9 1 6 1000 9 0 0 0 0 0 0"},
		{"submit 0 3 1 3 7 0", 0, "1 1 0 0 | u1 u1 u1 u2 u2 u1 | 1 9 1 6 1000 9 0 0 0 0 0 0 | 0 3 1 3 7 0 0 0 0 0 0 0"},
		{"start 2 4", 5, ""}, {"unhold 2", 5, ""}, {"drain 2 9", 5, ""}, {"saved 2 0", 5, ""}, {"saved 2 1", 5, ""}, {"evict 2", 5, ""}, {"done 2", 5, ""}, {"shrink 2 0", 5, ""},
		{"hold 2 35", 0, "1 1 0 0 | u1:2 u1:2 u1 u2 u2 u1:2 | 1 9 1 6 1000 9 0 0 0 0 0 0 | 0 3 1 3 7 0 1 1 35 0 0 0"},
		{"hold 2 4", 5, ""}, {"drain 2 9", 5, ""}, {"saved 2 1", 5, ""}, {"evict 2", 5, ""}, {"done 2", 5, ""}, {"shrink 2 0", 5, ""},
		{"unhold 2", 0, "1 1 0 0 | u1 u1 u1 u2 u2 u1 | 1 9 1 6 1000 9 0 0 0 0 0 0 | 0 3 1 3 7 0 0 1 0 0 0 0"},
		{"hold 2 24", 0, "1 1 0 0 | u1 u1 u1 u2:2 u2:2 u1 | 1 9 1 6 1000 9 0 0 0 0 0 0 | 0 3 1 3 7 0 1 2 24 0 0 0"},
		{"start 2 12", 0, "1 1 0 0 | u1 u1 u1 u2:2 u2:2 u1 | 1 9 1 6 1000 9 0 0 0 0 0 0 | 0 3 1 3 7 0 2 2 24 12 0 0"},
		{"start 2 13", 5, ""}, {"unhold 2", 5, ""}, {"evict 2", 5, ""}, {"hold 2 1", 5, ""},
		{"saved 2 1", 6, ""}, {"saved 2 3", 6, ""}, {"saved 2 0", 6, ""},
		{"saved 2 2", 0, "1 1 0 0 | u1 u1 u1 u2:2 u2:2 u1 | 1 9 1 6 1000 9 0 0 0 0 0 0 | 0 3 1 3 7 0 2 2 24 12 0 2"},
		{"saved 2 2", 6, ""}, {"saved 2 3", 6, ""},
		{"shrink 2 0", 8, ""}, {"shrink 2 6", 4, ""},
		{"shrink 2 3", 0, "1 1 0 0 | u1 u1 u1 u2 u2:2 u1 | 1 9 1 6 1000 9 0 0 0 0 0 0 | 0 3 1 3 7 0 2 2 16 12 0 2"},
		{"shrink 2 3", 8, ""}, {"shrink 2 4", 8, ""},
		{"drain 2 40", 0, "1 1 0 0 | u1 u1 u1 u2 u2:2 u1 | 1 9 1 6 1000 9 0 0 0 0 0 0 | 0 3 1 3 7 0 3 2 16 12 40 2"},
		{"drain 2 41", 5, ""}, {"start 2 1", 5, ""}, {"unhold 2", 5, ""}, {"shrink 2 4", 5, ""}, {"hold 2 1", 5, ""},
		{"evict 2", 0, "1 1 0 0 | u1 u1 u1 u2 u2 u1 | 1 9 1 6 1000 9 0 0 0 0 0 0 | 0 3 1 3 7 0 0 2 0 0 0 2"},
		{"hold 2 7", 0, "1 1 0 0 | u1:2 u1:2 u1:2 u2 u2 u1 | 1 9 1 6 1000 9 0 0 0 0 0 0 | 0 3 1 3 7 0 1 3 7 0 0 2"},
		{"start 2 1000000", 0, "1 1 0 0 | u1:2 u1:2 u1:2 u2 u2 u1 | 1 9 1 6 1000 9 0 0 0 0 0 0 | 0 3 1 3 7 0 2 3 7 1000000 0 2"},
		{"drain 2 1000000", 0, "1 1 0 0 | u1:2 u1:2 u1:2 u2 u2 u1 | 1 9 1 6 1000 9 0 0 0 0 0 0 | 0 3 1 3 7 0 3 3 7 1000000 1000000 2"},
		{"saved 2 3", 0, "1 1 0 0 | u1:2 u1:2 u1:2 u2 u2 u1 | 1 9 1 6 1000 9 0 0 0 0 0 0 | 0 3 1 3 7 0 3 3 7 1000000 1000000 3"},
		{"done 2", 0, "1 1 0 0 | u1 u1 u1 u2 u2 u1 | 1 9 1 6 1000 9 0 0 0 0 0 0 | 0 3 1 3 7 0 4 3 0 0 0 3"},
		{"done 2", 5, ""}, {"cancel 2", 5, ""}, {"hold 2 1", 5, ""}, {"start 2 1", 5, ""}, {"unhold 2", 5, ""}, {"drain 2 1", 5, ""}, {"saved 2 4", 5, ""}, {"evict 2", 5, ""}, {"shrink 2 0", 5, ""},
		{"cancel 1", 0, "1 1 0 0 | u1 u1 u1 u2 u2 u1 | 1 9 1 6 1000 9 4 0 0 0 0 0 | 0 3 1 3 7 0 4 3 0 0 0 3"},
		{"cancel 3", 4, ""}, {"cancel 0", 4, ""},
	})
}

// P9.2: a job is let go to Ended, or Queued, from each phase; the other one is left as it is.
func TestLetGo(t *testing.T) {
	for _, x := range []struct{ phase, op, want string }{
		{"1 1 3 4 5 0", "cancel 1", "4 1 0 0 0 0"}, {"2 2 3 4 5 1", "cancel 1", "4 2 0 0 0 1"}, {"3 2 3 4 5 2", "cancel 1", "4 2 0 0 0 2"},
		{"2 2 3 4 5 1", "done 1", "4 2 0 0 0 1"}, {"3 2 3 4 5 2", "done 1", "4 2 0 0 0 2"},
		{"1 1 3 4 5 0", "unhold 1", "0 1 0 0 0 0"}, {"3 2 3 4 5 2", "evict 1", "0 2 0 0 0 2"},
	} {
		other := " | 0 0 2 2 1 0 2 6 12 7 8 5"
		play(t, fleet(4, 1, 1), "1 1 0 0 | u1:1 uc1:1 u2:2 u2:2 | 0 0 1 2 1 0 "+x.phase+other, []step{
			{x.op, 0, "1 1 0 0 | u1 uc1 u2:2 u2:2 | 0 0 1 2 1 0 " + x.want + other},
		})
	}
	for _, x := range []struct{ phase, want string }{{"1 1 3 4 5 0", "0 1 0 0 0 0"}, {"2 2 3 4 5 1", "0 2 0 0 0 1"}, {"3 2 3 4 5 2", "0 2 0 0 0 2"}} {
		play(t, fleet(3, 1, 1), "1 1 0 0 | u1:1 uc1:1 u1 | 0 0 1 2 1 0 "+x.phase, []step{
			{"down 1", 0, "1 1 0 0 | u1 dc1 u1 | 0 0 1 2 1 0 " + x.want},
		})
	}
	play(t, fleet(3, 1, 1), "1 1 0 0 | u1 u1 u1 | 0 0 1 2 1 0 0 1 0 4 5 0", []step{ // since and until of one that is Queued
		{"cancel 1", 0, "1 1 0 0 | u1 u1 u1 | 0 0 1 2 1 0 4 1 0 0 0 0"},
	})
}

// P9.2: a node's way, and back.
func TestNodesWay(t *testing.T) {
	play(t, fleet(2, 1, 1), "1 1 0 0 | u1 u3", []step{
		{"uncordon 0", 5, ""}, {"move 0", 5, ""}, {"moved 0 2", 5, ""}, {"up 0 2", 5, ""}, {"up 0 0", 1, ""}, {"up 0 10", 1, ""}, {"moved 0 0", 1, ""}, {"moved 0 10", 1, ""},
		{"cordon 0", 0, "1 1 0 0 | uc1 u3"},
		{"cordon 0", 5, ""}, {"moved 0 2", 5, ""},
		{"uncordon 0", 0, "1 1 0 0 | u1 u3"},
		{"cordon 0", 0, "1 1 0 0 | uc1 u3"},
		{"move 0", 0, "1 1 0 0 | ucm1 u3"},
		{"move 0", 5, ""}, {"uncordon 0", 5, ""}, {"cordon 0", 5, ""}, {"up 0 1", 5, ""}, {"moved 0 0", 1, ""}, {"moved 0 10", 1, ""},
		{"moved 0 9", 0, "1 1 0 0 | u9 u3"},
		{"cordon 0", 0, "1 1 0 0 | uc9 u3"},
		{"move 0", 0, "1 1 0 0 | ucm9 u3"},
		{"down 0", 0, "1 1 0 0 | dc9 u3"},
		{"down 0", 5, ""}, {"cordon 0", 5, ""}, {"move 0", 5, ""}, {"moved 0 1", 5, ""}, {"up 0 0", 1, ""}, {"up 0 10", 1, ""},
		{"up 0 1", 0, "1 1 0 0 | uc1 u3"},
		{"down 0", 0, "1 1 0 0 | dc1 u3"},
		{"uncordon 0", 0, "1 1 0 0 | d1 u3"},
		{"uncordon 0", 5, ""}, {"cordon 0", 5, ""}, {"move 0", 5, ""},
		{"up 0 9", 0, "1 1 0 0 | u9 u3"},
		{"down 1", 0, "1 1 0 0 | u9 d3"},
		{"up 1 3", 0, "1 1 0 0 | u9 u3"},
		{"down 2", 4, ""}, {"up 2 0", 4, ""}, {"up 2 1", 4, ""}, {"cordon 2", 4, ""}, {"uncordon 2", 4, ""}, {"move 2", 4, ""}, {"moved 2 0", 4, ""}, {"moved 1000000 1", 4, ""},
	})
}

// P9.2: a node with a job may be cordoned, and not moved.
func TestCordonedHost(t *testing.T) {
	play(t, fleet(2, 1, 1), "1 1 0 0 | u1:1 u1 | 0 0 1 2 1 0 2 1 1 0 0 0", []step{
		{"cordon 0", 0, "1 1 0 0 | uc1:1 u1 | 0 0 1 2 1 0 2 1 1 0 0 0"},
		{"move 0", 5, ""},
		{"uncordon 0", 0, "1 1 0 0 | u1:1 u1 | 0 0 1 2 1 0 2 1 1 0 0 0"},
		{"cordon 0", 0, "1 1 0 0 | uc1:1 u1 | 0 0 1 2 1 0 2 1 1 0 0 0"},
		{"done 1", 0, "1 1 0 0 | uc1 u1 | 0 0 1 2 1 0 4 1 0 0 0 0"},
		{"move 0", 0, "1 1 0 0 | ucm1 u1 | 0 0 1 2 1 0 4 1 0 0 0 0"},
	})
}

// P9.2: a node goes down whose job has others: these have none any more; another job keeps its own.
func TestDownOfOneOfMany(t *testing.T) {
	play(t, fleet(6, 2, 1), "1 1 0 0 | u1:1 u2:2 uc1:1 u1:1 u2 u2:2 | 0 4 2 3 9 1 3 5 13 6 8 4 | 1 0 2 2 9 0 2 1 34 3 0 0", []step{
		{"down 2", 0, "1 1 0 0 | u1 u2:2 dc1 u1 u2 u2:2 | 0 4 2 3 9 1 0 5 0 0 0 4 | 1 0 2 2 9 0 2 1 34 3 0 0"},
		{"down 5", 0, "1 1 0 0 | u1 u2 dc1 u1 u2 d2 | 0 4 2 3 9 1 0 5 0 0 0 4 | 1 0 2 2 9 0 0 1 0 0 0 0"},
		{"down 4", 0, "1 1 0 0 | u1 u2 dc1 u1 d2 d2 | 0 4 2 3 9 1 0 5 0 0 0 4 | 1 0 2 2 9 0 0 1 0 0 0 0"},
	})
}

// P9.2, P9.3: which version is meant, behind each op of a rollout.
func TestRollout(t *testing.T) {
	s := state("1 1 0 0 | u1")
	for i, x := range []struct {
		op    string
		e     api.Errno
		want  string // goal, prior, mode
		meant int
	}{
		{"resume", 5, "1 1 0", 1}, {"target 0", 1, "1 1 0", 1}, {"target 10", 1, "1 1 0", 1}, {"target 1000000", 1, "1 1 0", 1},
		{"target 2", 0, "2 1 0", 2}, {"resume", 5, "2 1 0", 2},
		{"pause", 0, "2 1 1", 2}, {"pause", 5, "2 1 1", 2}, {"resume", 0, "2 1 0", 2}, {"pause", 0, "2 1 1", 2},
		{"target 3", 0, "3 2 0", 3},
		{"abort", 0, "3 2 2", 2}, {"abort", 5, "3 2 2", 2}, {"pause", 5, "3 2 2", 2}, {"resume", 5, "3 2 2", 2},
		{"target 4", 0, "4 2 0", 4}, {"target 5", 0, "5 4 0", 5},
		{"pause", 0, "5 4 1", 5}, {"abort", 0, "5 4 2", 4}, {"resume", 5, "5 4 2", 4}, {"target 0", 1, "5 4 2", 4},
		{"target 9", 0, "9 4 0", 9}, {"target 9", 0, "9 9 0", 9}, {"abort", 0, "9 9 2", 9}, {"target 1", 0, "1 9 0", 1}, {"abort", 0, "1 9 2", 9}, {"target 1", 0, "1 9 0", 1},
	} {
		y, e := book.Apply(fleet(1, 1, 0), s, words(x.op))
		if want := state(x.want + " 0 | u1"); e != x.e || !same(y, want) || book.Meant(y) != x.meant {
			t.Error(i, x.op, e, y)
		}
		s = y
	}
}

// P9.2: what may be submitted, in fleets of one node and of six.
func TestSubmit(t *testing.T) {
	for _, x := range []struct {
		nodes, queues int
		op            string
		e             api.Errno
	}{
		{1, 1, "submit 0 0 1 1 1 0", 0}, {1, 1, "submit 0 9 1 1 1000 9", 0}, {1, 1, "submit 1 0 1 1 1 0", 1}, {1, 1, "submit 0 10 1 1 1 0", 1}, {1, 1, "submit 0 0 0 1 1 0", 1}, {1, 1, "submit 0 0 0 0 1 0", 1}, {1, 1, "submit 0 0 1 0 1 0", 1}, {1, 1, "submit 0 0 1 2 1 0", 1}, {1, 1, "submit 0 0 2 2 1 0", 1}, {1, 1, "submit 0 0 1 1 0 0", 1}, {1, 1, "submit 0 0 1 1 1001 0", 1}, {1, 1, "submit 0 0 1 1 1 10", 1},
		{6, 3, "submit 2 9 6 6 1000 9", 0}, {6, 3, "submit 0 0 1 6 1 1", 0}, {6, 3, "submit 1 5 3 3 500 5", 0}, {6, 3, "submit 3 0 1 1 1 0", 1}, {6, 3, "submit 0 0 1 7 1 0", 1}, {6, 3, "submit 0 0 7 7 1 0", 1}, {6, 3, "submit 0 0 4 3 1 0", 1}, {6, 3, "submit 1000000 0 1 1 1 0", 1}, {6, 3, "submit 0 0 1 1 1000000 0", 1},
		{6, 2, "submit 2 0 1 1 1 0", 1}, {6, 2, "submit 1 0 1 1 1 0", 0}, {5, 3, "submit 0 0 1 6 1 0", 1}, {5, 3, "submit 0 0 5 5 1 0", 0},
	} {
		c := fleet(x.nodes, x.queues, 0)
		want := slowNew(c)
		o := words(x.op)
		if x.e == 0 {
			want.Jobs = []api.Job{{Queue: o.A, Prio: o.B, Min: o.C, Max: o.D, Work: o.E, Pin: o.F}}
		}
		if y, e := book.Apply(c, slowNew(c), o); e != x.e || !same(y, want) {
			t.Error(x, e, y)
		}
	}
}

// P9.2: the 24th job and the 25th, whatever became of the others; what may not be is told ahead.
func TestSubmitFull(t *testing.T) {
	c := fleet(2, 1, 1)
	s := slowNew(c)
	for i := range 24 {
		y, e := book.Apply(c, s, op(api.Submit, 0, i%10, 1, 2, 1+i, 0))
		if e != api.OK || len(y.Jobs) != i+1 || y.Jobs[i] != (api.Job{Prio: i % 10, Min: 1, Max: 2, Work: 1 + i}) || !slices.Equal(y.Jobs[:i], s.Jobs) {
			t.Fatal(i, e, y)
		}
		if s = y; i%2 == 0 {
			s, _ = book.Apply(c, s, op(api.Cancel, i+1))
		}
	}
	if y, e := book.Apply(c, s, op(api.Submit, 0, 0, 1, 2, 1, 0)); e != api.ErrFull || !same(y, s) {
		t.Error(e, y)
	}
	if y, e := book.Apply(c, s, op(api.Submit, 1, 0, 1, 2, 1, 0)); e != api.ErrArg || !same(y, s) {
		t.Error(e, y)
	}
	if y, e := book.Apply(c, s, op(api.Hold, 24, 3)); e != api.OK || y.Jobs[23].Nodes != 3 || y.Nodes[1].Job != 24 {
		t.Error(e, y)
	}
	if y, e := book.Apply(c, s, op(api.Hold, 25, 3)); e != api.ErrNone || !same(y, s) {
		t.Error(e, y)
	}
}

// P9.2: which nodes may be held; job 1 takes two or three of any version, job 2 one or two of version 2, job 3 all six, job 4 has node 0.
func TestHold(t *testing.T) {
	c := fleet(6, 1, 0)
	jobs := "| 0 0 2 3 1 0 0 0 0 0 0 0 | 0 0 1 2 1 2 0 0 0 0 0 0 | 0 0 6 6 1 0 0 0 0 0 0 0"
	for _, x := range []struct {
		nodes    string
		job, set int
		e        api.Errno
	}{
		{"u1 u1 u1 u1 u1 u1", 1, 3, 0}, {"u1 u1 u1 u1 u1 u1", 1, 7, 0}, {"u1 u1 u1 u1 u1 u1", 1, 56, 0}, {"u1 u1 u1 u1 u1 u1", 1, 33, 0},
		{"u1 u1 u1 u1 u1 u1", 1, 0, 8}, {"u1 u1 u1 u1 u1 u1", 1, 1, 8}, {"u1 u1 u1 u1 u1 u1", 1, 15, 8}, {"u1 u1 u1 u1 u1 u1", 1, 63, 8},
		{"u1 u1 u1 u1 u1 u1", 1, 64, 8}, {"u1 u1 u1 u1 u1 u1", 1, 65, 8}, {"u1 u1 u1 u1 u1 u1", 1, 64 + 3, 8}, {"u1 u1 u1 u1 u1 u1", 1, 1<<19 + 3, 8}, {"u1 u1 u1 u1 u1 u1", 1, mostNum, 8},
		{"u1 u1 u1 u1 u1 u1", 3, 63, 0}, {"u1 u1 u1 u1 u1 u1", 3, 31, 8}, {"u1 u1 u1 u1 u1 u1", 3, 31 + 64, 8},
		{"u1 u1 u2 u2 u3 u1", 1, 3, 0}, {"u1 u1 u2 u2 u3 u1", 1, 12, 0}, {"u1 u1 u2 u2 u3 u1", 1, 6, 8}, {"u1 u1 u2 u2 u3 u1", 1, 7, 8}, {"u1 u1 u2 u2 u3 u1", 1, 35, 0}, {"u1 u1 u2 u2 u3 u1", 1, 48, 8},
		{"u1 u1 u2 u2 u3 u1", 2, 4, 0}, {"u1 u1 u2 u2 u3 u1", 2, 12, 0}, {"u1 u1 u2 u2 u3 u1", 2, 1, 8}, {"u1 u1 u2 u2 u3 u1", 2, 16, 8}, {"u1 u1 u2 u2 u3 u1", 2, 3, 8}, {"u1 u1 u2 u2 u3 u1", 2, 6, 8}, {"u1 u1 u2 u2 u3 u1", 2, 0, 8},
		{"u1 d1 u1 u1 u1 u1", 1, 3, 8}, {"u1 d1 u1 u1 u1 u1", 1, 5, 0}, {"u1 u1 u1 u1 u1 d1", 3, 63, 8},
		{"u1 uc1 u1 u1 u1 u1", 1, 3, 8}, {"u1 uc1 u1 u1 u1 u1", 1, 13, 0}, {"u1 ucm1 u1 u1 u1 u1", 1, 3, 8}, {"u1 dc1 u1 u1 u1 u1", 1, 6, 8},
		{"u1:4 u1 u1 u1 u1 u1", 1, 3, 8}, {"u1:4 u1 u1 u1 u1 u1", 1, 7, 8}, {"u1:4 u1 u1 u1 u1 u1", 1, 6, 0}, {"u1:4 u1 u1 u1 u1 u1", 1, 14, 0},
	} {
		s := state("1 1 0 0 | " + x.nodes + jobs)
		s.Jobs = append(s.Jobs, api.Job{Min: 1, Max: 1, Work: 1, Phase: 1, Inc: 1, Nodes: 1})
		if s.Nodes[0].Job == 0 {
			s.Jobs = s.Jobs[:3]
		}
		want := apart(s)
		if x.e == 0 {
			j := &want.Jobs[x.job-1]
			j.Phase, j.Inc, j.Nodes = 1, 1, x.set
			for _, i := range bitsOf(x.set) {
				want.Nodes[i].Job = x.job
			}
		}
		if y, e := book.Apply(c, s, op(api.Hold, x.job, x.set)); e != x.e || !same(y, want) {
			t.Error(x, e, y)
		}
	}
}

// P9.2: numbers at MaxTime, and one below.
func TestGreatest(t *testing.T) {
	c := fleet(1, 1, 1)
	play(t, c, "1 1 0 999998 | u1", []step{
		{"newterm", 0, "1 1 0 999999 | u1"},
		{"newterm", 0, "1 1 0 1000000 | u1"},
		{"newterm", 3, ""},
		{"target 2", 0, "2 1 0 1000000 | u1"},
	})
	play(t, c, "1 1 0 0 | u1 | 0 0 1 1 1 0 0 999998 0 0 0 5", []step{
		{"hold 1 1", 0, "1 1 0 0 | u1:1 | 0 0 1 1 1 0 1 999999 1 0 0 5"},
		{"unhold 1", 0, "1 1 0 0 | u1 | 0 0 1 1 1 0 0 999999 0 0 0 5"},
		{"hold 1 1", 0, "1 1 0 0 | u1:1 | 0 0 1 1 1 0 1 1000000 1 0 0 5"},
		{"start 1 0", 0, "1 1 0 0 | u1:1 | 0 0 1 1 1 0 2 1000000 1 0 0 5"},
		{"saved 1 999999", 6, ""},
		{"saved 1 1000000", 0, "1 1 0 0 | u1:1 | 0 0 1 1 1 0 2 1000000 1 0 0 1000000"},
		{"saved 1 1000000", 6, ""},
		{"drain 1 0", 0, "1 1 0 0 | u1:1 | 0 0 1 1 1 0 3 1000000 1 0 0 1000000"},
		{"evict 1", 0, "1 1 0 0 | u1 | 0 0 1 1 1 0 0 1000000 0 0 0 1000000"},
		{"hold 1 1", 8, ""},
		{"hold 1 2", 8, ""},
		{"cancel 1", 0, "1 1 0 0 | u1 | 0 0 1 1 1 0 4 1000000 0 0 0 1000000"},
		{"hold 1 1", 5, ""},
	})
}

// P9.2: checkpoints of a job that was never held, or whose last one is of ahead.
func TestSaved(t *testing.T) {
	for _, phase := range []string{"2", "3"} {
		ahead := "1 1 0 0 | u1:1 | 0 0 1 1 1 0 " + phase
		play(t, fleet(1, 1, 1), ahead+" 0 1 0 0 0", []step{{"saved 1 0", 6, ""}, {"saved 1 1", 6, ""}})
		play(t, fleet(1, 1, 1), ahead+" 7 1 0 0 6", []step{{"saved 1 6", 6, ""}, {"saved 1 5", 6, ""}, {"saved 1 8", 6, ""}, {"saved 1 0", 6, ""}, {"saved 1 7", 0, ahead + " 7 1 0 0 7"}, {"saved 1 7", 6, ""}})
		play(t, fleet(1, 1, 1), ahead+" 7 1 2 3 0", []step{{"saved 1 1", 6, ""}, {"saved 1 7", 0, ahead + " 7 1 2 3 7"}})
	}
}

// P9.2: a queue's quota, of 0, and one that is just reached; another queue's drains don't count.
func TestQuota(t *testing.T) {
	for quota := range 5 {
		c := fleet(6, 2, quota)
		s := slowNew(c)
		for i := range 6 {
			s.Jobs = append(s.Jobs, api.Job{Queue: i / 5, Min: 1, Max: 1, Work: 1, Phase: 2, Inc: 1, Nodes: 1 << i})
			s.Nodes[i].Job = i + 1
		}
		for i := range 6 {
			want := api.Errno(api.OK)
			if i < 5 && i >= quota || quota == 0 {
				want = api.ErrQuota
			}
			y, e := book.Apply(c, s, op(api.Drain, i+1, 9))
			if e != want || book.Drains(y, 0) != min(i+1, 5, quota) || (y.Jobs[i].Phase == 3) != (want == 0) {
				t.Error(quota, i, e, y)
			}
			s = y
		}
		if quota == 0 {
			continue
		}
		for _, kind := range []int{api.Evict, api.Done, api.Cancel} { // one less: there is room for one again
			x, _ := book.Apply(c, s, op(kind, 1))
			y, e := book.Apply(c, x, op(api.Drain, 5, 9))
			if e != api.OK || book.Drains(y, 0) != quota {
				t.Error(quota, kind, e, y)
			}
		}
	}
}

// P9.2: a job may be shrunk to its min, and not below.
func TestShrink(t *testing.T) {
	play(t, fleet(6, 1, 0), "1 1 0 0 | u1:1 u1:1 u1:1 uc1:1 u1:1 u1 | 0 0 3 5 1 0 2 1 31 8 0 0", []step{
		{"shrink 1 5", 8, ""}, {"shrink 1 6", 4, ""}, {"shrink 2 0", 4, ""}, {"shrink 0 0", 4, ""}, {"shrink 2 6", 4, ""},
		{"shrink 1 3", 0, "1 1 0 0 | u1:1 u1:1 u1:1 uc1 u1:1 u1 | 0 0 3 5 1 0 2 1 23 8 0 0"},
		{"shrink 1 3", 8, ""},
		{"shrink 1 0", 0, "1 1 0 0 | u1 u1:1 u1:1 uc1 u1:1 u1 | 0 0 3 5 1 0 2 1 22 8 0 0"},
		{"shrink 1 1", 8, ""}, {"shrink 1 4", 8, ""}, {"shrink 1 0", 8, ""},
	})
	play(t, fleet(2, 1, 0), "1 1 0 0 | u1:1 u1:2 | 0 0 1 2 1 0 2 1 1 8 0 0 | 0 0 1 2 1 0 2 1 2 8 0 0", []step{
		{"shrink 1 0", 8, ""}, {"shrink 1 1", 8, ""}, {"shrink 2 0", 8, ""},
	})
}

// P9.2: where two errors could be named, the first one is.
func TestOrderOfErrors(t *testing.T) {
	c := fleet(2, 1, 1)
	ahead := "1 1 2 1000000 | u1:2 dc1 | 0 0 1 1 1 0 4 1000000 0 0 0 1 | 0 0 1 1 1 0 3 1 1 0 0 0 | 0 0 1 1 1 0 0 1000000 0 0 0 0"
	if !book.Right(c, state(ahead)) {
		t.Fatal("a state that may be")
	}
	play(t, c, ahead, []step{
		{"hold 4 9", 4, ""}, {"hold 1 9", 5, ""}, {"hold 2 2", 5, ""}, {"hold 3 9", 8, ""}, {"hold 3 0", 8, ""},
		{"drain 4 9", 4, ""}, {"drain 2 9", 5, ""}, {"drain 1 9", 5, ""},
		{"saved 4 1", 4, ""}, {"saved 1 1", 5, ""}, {"saved 3 2", 5, ""},
		{"shrink 4 9", 4, ""}, {"shrink 1 9", 4, ""}, {"shrink 1 0", 5, ""}, {"shrink 2 0", 5, ""},
		{"up 2 0", 4, ""}, {"up 0 0", 1, ""}, {"up 0 10", 1, ""}, {"up 1 0", 1, ""}, {"moved 2 10", 4, ""}, {"moved 0 10", 1, ""}, {"moved 1 0", 1, ""},
		{"target 0", 1, ""}, {"newterm", 3, ""}, {"down 2", 4, ""}, {"down 1", 5, ""},
	})
	for _, o := range []api.Op{op(9, 4, -1), op(9, -1, 1), op(9, 1, 1, 1), op(9, 1, mostNum+1), op(20, 4, 9, 1), op(7, 9, 1), op(7, -1), op(21, 1), op(6, 1), op(2, 4, 1), op(8, 9, 1, 1), op(0), op(22, 4)} {
		if y, e := book.Apply(c, state(ahead), o); e != api.ErrArg || !same(y, state(ahead)) {
			t.Error(o, e, y)
		}
	}
}

// P9.2, P9.5: an op that isn't right is ErrArg, and leaves all as it was.
func TestWrongOps(t *testing.T) {
	c := fleet(6, 2, 1)
	s := state(full)
	for kind := 1; kind <= 21; kind++ {
		for i := range 6 {
			for _, n := range append([]int{1}, far...) {
				l := []int{1, 1, 1, 1, 1, 1}
				for k := counts[kind-1]; k < 6; k++ {
					l[k] = 0
				}
				if n == 1 && i < counts[kind-1] {
					continue
				}
				l[i] = n
				if y, e := book.Apply(c, s, op(kind, l...)); e != api.ErrArg || !same(y, s) {
					t.Error(kind, l, e, y)
				}
			}
		}
	}
	for _, kind := range []int{math.MinInt, -21, -1, 0, 22, 23, 255, 256 + 4, 1<<32 + 4, math.MaxInt} {
		if y, e := book.Apply(c, s, op(kind)); e != api.ErrArg || !same(y, s) {
			t.Error(kind, e, y)
		}
	}
}

// seen counts how often each error of each kind of op was told.
type seen map[[2]int]int

// try does an op, and holds what is told against the slow reading: P9.2; and P9.4, P9.5.
func (n seen) try(t *testing.T, c api.Conf, s api.State, o api.Op) api.State {
	t.Helper()
	y, e := book.Apply(c, s, o)
	want, wanted := slowApply(c, s, o)
	if e != wanted || !same(y, want) {
		t.Fatalf("%v\n%v\n%v: %d\n%v\nwant %d\n%v", c, s, o, e, y, wanted, want)
	}
	if !slowRight(c, y) || !book.Right(c, y) {
		t.Fatalf("%v\n%v\n%v: may not be:\n%v", c, s, o, y)
	}
	if e != api.OK && !same(y, s) {
		t.Fatalf("%v\n%v\n%v: %d\nnot as it was:\n%v", c, s, o, e, y)
	}
	keeps(t, s, y)
	if slowOp(o) {
		n[[2]int{o.Kind, int(e)}]++
	}
	return y
}

// keeps holds a state against the one behind an op: P9.5.
func keeps(t *testing.T, s, y api.State) {
	t.Helper()
	if len(y.Jobs) < len(s.Jobs) {
		t.Fatal("a job less", s, y)
	}
	for k, a := range s.Jobs {
		b := y.Jobs[k]
		if b.Queue != a.Queue || b.Prio != a.Prio || b.Min != a.Min || b.Max != a.Max || b.Work != a.Work || b.Pin != a.Pin {
			t.Fatal("a job doesn't keep what it has", a, b)
		}
		if b.Inc < a.Inc || b.Epoch < a.Epoch || a.Phase == api.Ended && b.Phase != api.Ended {
			t.Fatal("a job goes back", a, b)
		}
	}
}

// all asks whether each error that each kind of op has, and no other one, was told at least so often.
func (n seen) all(t *testing.T, least int) {
	t.Helper()
	for i, l := range [][]int{{0, 1, 3}, {0, 4, 5}, {0, 1}, {0, 5}, {0, 5}, {0, 5}, {0, 4, 5}, {0, 1, 4, 5}, {0, 4, 5, 8}, {0, 4, 5}, {0, 4, 5}, {0, 4, 5, 7}, {0, 4, 5, 6}, {0, 4, 5}, {0, 4, 5}, {0, 4, 5}, {0, 4, 5}, {0, 4, 5}, {0, 1, 4, 5}, {0, 4, 5, 8}, {0, 3}} {
		for e := range 10 {
			if k := n[[2]int{i + 1, e}]; slices.Contains(l, e) != (k > 0) || k > 0 && k < least {
				t.Error(names[i], e, k)
			}
		}
	}
}

// P9.2, P9.4, P9.5: all kinds of ops on states that may be, also such as no ops lead to.
func TestApplySome(t *testing.T) {
	r := newRand(2)
	n := seen{}
	for range 600 {
		c := someFleet(r)
		s := someState(r, c)
		for _, o := range someOps(r, c, s) {
			n.try(t, c, s, o)
		}
	}
	n.all(t, 20)
}

// P9.2, P9.4, P9.5: runs of ops from the first state on, in fleets of one node and of six, and of others.
func TestApplyRuns(t *testing.T) {
	r := newRand(3)
	n := seen{}
	for i := range 96 {
		c := fleet([]int{1, 6, 2 + r.IntN(4)}[i%3], 1+r.IntN(3), r.IntN(5))
		s := book.New(c)
		for range 120 {
			s = n.try(t, c, s, nextOp(r, c, s))
		}
	}
	for kind := 1; kind <= 21; kind++ {
		if n[[2]int{kind, 0}] < 2 {
			t.Error("too few", names[kind-1], n[[2]int{kind, 0}])
		}
	}
}

// nextOp is mostly one that can be done, of some kind; a job's end comes seldom.
func nextOp(r *rand.Rand, c api.Conf, s api.State) api.Op {
	l := someOps(r, c, s)
	if r.IntN(4) == 0 {
		return l[r.IntN(len(l))]
	}
	for {
		kind := 1 + r.IntN(21)
		if (kind == api.Cancel || kind == api.Done || kind == api.Down) && r.IntN(3) > 0 {
			continue
		}
		var can []api.Op
		for _, o := range l {
			if o.Kind == kind {
				if _, e := slowApply(c, s, o); e == api.OK {
					can = append(can, o)
				}
			}
		}
		if len(can) > 0 {
			return can[r.IntN(len(can))]
		}
	}
}

// P9.2, P9.4, P9.5: all states that few ops of small fleets lead to, and all ops there.
func TestApplyAll(t *testing.T) {
	for _, c := range []api.Conf{fleet(1, 1, 0), fleet(1, 2, 1), fleet(2, 1, 1)} {
		n := seen{}
		known := map[string]bool{}
		level := []api.State{book.New(c)}
		for depth := 0; depth < 6 && len(level) > 0; depth++ {
			var next []api.State
			for _, s := range level {
				for _, o := range fewOps(c) {
					y := n.try(t, c, s, o)
					if k := tell(y); !known[k] {
						known[k] = true
						next = append(next, y)
					}
				}
			}
			level = next
		}
		if len(known) < 3000 {
			t.Error(c, "states:", len(known))
		}
	}
}

// fewOps are those of at most two jobs, two nodes and two versions.
func fewOps(c api.Conf) []api.Op {
	l := []api.Op{op(1, 0, 1, 1, c.Nodes, 3, 0), op(1, c.Queues-1, 0, c.Nodes, c.Nodes, 3, 2), op(3, 2), op(4), op(5), op(6)}
	for job := 1; job <= 2; job++ {
		l = append(l, op(2, job), op(10, job, 4), op(11, job), op(12, job, 6), op(13, job, 1), op(13, job, 2), op(14, job), op(15, job))
		for set := range 1 << c.Nodes {
			l = append(l, op(9, job, set))
		}
		for i := range c.Nodes {
			l = append(l, op(20, job, i))
		}
	}
	for i := range c.Nodes {
		l = append(l, op(7, i), op(8, i, 2), op(16, i), op(17, i), op(18, i), op(19, i, 2))
	}
	return l
}

// tell is a state's text.
func tell(s api.State) string {
	var b strings.Builder
	for _, n := range []int{s.Goal, s.Prior, s.Mode, s.Term} {
		b.WriteString(strconv.Itoa(n) + " ")
	}
	for _, n := range s.Nodes {
		b.WriteString(strconv.FormatBool(n.Up) + strconv.FormatBool(n.Cordon) + strconv.FormatBool(n.Moving) + strconv.Itoa(n.Version) + ":" + strconv.Itoa(n.Job) + " ")
	}
	for _, j := range s.Jobs {
		for _, p := range jobFields(&j) {
			b.WriteString(strconv.Itoa(*p) + " ")
		}
	}
	return b.String()
}

// P9.3.

// P9.3: Prior, if it is Aborted, else Goal; of any state.
func TestMeant(t *testing.T) {
	for _, x := range []struct{ goal, prior, mode, want int }{
		{1, 1, 0, 1}, {2, 1, 0, 2}, {2, 1, 1, 2}, {2, 1, 2, 1}, {1, 2, 0, 1}, {1, 2, 1, 1}, {1, 2, 2, 2}, {9, 3, 2, 3}, {9, 3, 0, 9},
		{-5, 70, 0, -5}, {-5, 70, 2, 70}, {0, 0, 2, 0}, {4, 3, 3, 4}, {4, 3, -1, 4}, {4, 3, math.MaxInt, 4}, {math.MinInt, math.MaxInt, 2, math.MaxInt},
	} {
		if m := book.Meant(api.State{Goal: x.goal, Prior: x.prior, Mode: x.mode}); m != x.want {
			t.Error(x, m)
		}
		s := state(full)
		s.Goal, s.Prior, s.Mode = x.goal, x.prior, x.mode
		if m := book.Meant(s); m != x.want {
			t.Error(x, m)
		}
	}
}

// P9.3: up, not cordoned, not moving, and without a job.
func TestFree(t *testing.T) {
	for _, version := range []int{0, 1, 9, -1, math.MaxInt} {
		for _, job := range []int{0, 1, 24, 25, -1, math.MinInt, math.MaxInt} {
			for marks := range 8 {
				n := api.Node{Up: marks&1 > 0, Cordon: marks&2 > 0, Moving: marks&4 > 0, Version: version, Job: job}
				if book.Free(n) != (marks == 1 && job == 0) {
					t.Error(n)
				}
			}
		}
	}
}

// P9.3: how many jobs of a queue are Draining; of any state.
func TestDrains(t *testing.T) {
	var s api.State
	for _, x := range [][2]int{{0, 3}, {0, 2}, {1, 3}, {0, 3}, {2, 4}, {0, 0}, {0, 1}, {1, 3}, {1, 2}, {0, 3}, {-1, 3}, {7, 3}, {7, 3}, {2, -3}, {2, 5}, {2, math.MaxInt}, {math.MaxInt, 3}} {
		s.Jobs = append(s.Jobs, api.Job{Queue: x[0], Phase: x[1]})
	}
	for queue, want := range map[int]int{0: 3, 1: 2, 2: 0, 3: 0, -1: 1, 7: 2, math.MaxInt: 1, math.MinInt: 0, -2: 0} {
		if n := book.Drains(s, queue); n != want {
			t.Error(queue, n)
		}
	}
	for queue := range 3 {
		if n := book.Drains(book.New(fleet(6, 3, 4)), queue); n != 0 || book.Drains(api.State{}, queue) != 0 {
			t.Error(queue, n)
		}
		if n, want := book.Drains(state(full), queue), []int{1, 0, 0}[queue]; n != want {
			t.Error(queue, n)
		}
	}
}

// P9.3: the same, of any state.
func TestCopy(t *testing.T) {
	r := newRand(4)
	for i := range 2000 {
		s := someState(r, someFleet(r))
		if i%2 == 0 {
			change(r, &s)
		}
		kept := apart(s)
		if y := book.Copy(s); !same(y, kept) || !same(s, kept) {
			t.Fatal(s, y)
		}
	}
	if !isZero(book.Copy(api.State{})) || !isZero(book.Copy(api.State{Nodes: []api.Node{}, Jobs: []api.Job{}})) {
		t.Error("of a zero state")
	}
	many := api.State{Nodes: make([]api.Node, 70), Jobs: make([]api.Job, 300), Goal: -1, Prior: math.MaxInt, Mode: 9, Term: math.MinInt}
	many.Nodes[69], many.Jobs[299] = api.Node{Job: -3}, api.Job{Nodes: -1, Epoch: 5}
	if !same(book.Copy(many), apart(many)) {
		t.Error("of many")
	}
}

// P9.4: the first state may be, of each fleet.
func TestFirstMayBe(t *testing.T) {
	for n := 1; n <= 6; n++ {
		for queues := 1; queues <= 3; queues++ {
			for quota := range 5 {
				c := fleet(n, queues, quota)
				if s := book.New(c); !book.Right(c, s) || !slowRight(c, s) {
					t.Error(c, s)
				}
			}
		}
	}
}

// Rule 4: apart from one another.

// roomy is the same state, with spare room behind its lists that has something in it.
func roomy(s api.State) api.State {
	t := s
	t.Nodes = append(slices.Clone(s.Nodes), api.Node{Up: true, Version: 77}, api.Node{Version: 78})[:len(s.Nodes)]
	t.Jobs = append(slices.Clone(s.Jobs), api.Job{Queue: 77}, api.Job{Queue: 78}, api.Job{Queue: 79})[:len(s.Jobs)]
	return t
}

// whole is a state with the spare room of its lists.
func whole(s api.State) api.State {
	s.Nodes, s.Jobs = s.Nodes[:cap(s.Nodes)], s.Jobs[:cap(s.Jobs)]
	return s
}

// spoil writes over all of a state's lists, their spare room too.
func spoil(s api.State) {
	for i := range whole(s).Nodes {
		whole(s).Nodes[i] = api.Node{Moving: true, Version: -9, Job: -9}
	}
	for i := range whole(s).Jobs {
		whole(s).Jobs[i] = api.Job{Queue: -9, Nodes: -9, Phase: -9}
	}
}

// Rule 4: what is handed in isn't changed; what is answered is changed, and what was handed in, and neither changes the other.
func TestApart(t *testing.T) {
	r := newRand(5)
	for range 300 {
		c := someFleet(r)
		s := roomy(someState(r, c))
		ahead := apart(whole(s))
		for _, o := range someOps(r, c, s) {
			y, e := book.Apply(c, s, o)
			if !same(whole(s), ahead) {
				t.Fatal("handed in, and changed", o, s)
			}
			kept := apart(y)
			spoil(y)
			if !same(whole(s), ahead) {
				t.Fatal("an answer changes what was handed in", o, s)
			}
			again, e2 := book.Apply(c, s, o)
			if e2 != e || !same(again, kept) {
				t.Fatal("an answer changes a later one", o, again, kept)
			}
		}
		y, _ := book.Apply(c, s, op(api.Newterm))
		z, _ := book.Apply(c, s, op(0))
		x := book.Copy(s)
		keptY, keptZ, keptX := apart(y), apart(z), apart(x)
		spoil(s)
		if !same(y, keptY) || !same(z, keptZ) || !same(x, keptX) {
			t.Fatal("what was handed in changes an answer")
		}
	}
}

// Rule 4: copies, and first states, are new memory; Right, Drains, Meant change nothing.
func TestApartCopies(t *testing.T) {
	r := newRand(6)
	for range 500 {
		c := someFleet(r)
		s := roomy(someState(r, c))
		ahead := apart(whole(s))
		book.Right(c, s)
		book.Drains(s, 0)
		book.Meant(s)
		x, y := book.Copy(s), book.Copy(s)
		spoil(x)
		if !same(y, apart(s)) || !same(whole(s), ahead) {
			t.Fatal("copies", s, y)
		}
		a, b := book.New(c), book.New(c)
		spoil(a)
		if !same(b, slowNew(c)) || !same(book.New(c), slowNew(c)) {
			t.Fatal("first states", b)
		}
	}
}

// Rule 4: a state is appended to by its owner, ahead and behind.
func TestApartAppended(t *testing.T) {
	c := fleet(1, 1, 1)
	s := roomy(state("1 1 0 0 | u1 | 0 0 1 1 1 0 0 0 0 0 0 0"))
	a, _ := book.Apply(c, s, op(api.Submit, 0, 1, 1, 1, 1, 0))
	b, _ := book.Apply(c, s, op(api.Submit, 0, 2, 1, 1, 1, 0))
	_ = append(s.Jobs, api.Job{Prio: 5})
	d, _ := book.Apply(c, a, op(api.Submit, 0, 3, 1, 1, 1, 0))
	f, _ := book.Apply(c, a, op(api.Submit, 0, 4, 1, 1, 1, 0))
	if a.Jobs[1].Prio != 1 || b.Jobs[1].Prio != 2 || d.Jobs[2].Prio != 3 || f.Jobs[2].Prio != 4 || len(a.Jobs) != 2 || len(s.Jobs) != 1 {
		t.Error(s, a, b, d, f)
	}
}

// Rule 3: nil and empty lists are one.
func TestNilAndEmpty(t *testing.T) {
	c := fleet(2, 1, 1)
	none, empty := book.New(c), book.New(c)
	none.Jobs, empty.Jobs = nil, []api.Job{}
	for _, o := range someOps(newRand(7), c, none) {
		x, e := book.Apply(c, none, o)
		y, e2 := book.Apply(c, empty, o)
		if e != e2 || !same(x, y) {
			t.Error(o, e, e2, x, y)
		}
	}
	if !book.Right(c, none) || !book.Right(c, empty) || !same(book.Copy(none), book.Copy(empty)) {
		t.Error("no jobs")
	}
	for n := range 8 {
		c := fleet(n, 1, 1)
		if book.Right(c, api.State{Goal: 1, Prior: 1}) || book.Right(c, api.State{Goal: 1, Prior: 1, Nodes: []api.Node{}, Jobs: []api.Job{}}) {
			t.Error("no nodes, of", n)
		}
	}
}

// Rule 6: the same answers, whatever was done between.
func TestSameAgain(t *testing.T) {
	r := newRand(8)
	c := fleet(6, 2, 1)
	s := state(full)
	l := someOps(r, c, s)
	var first []string
	for _, o := range l {
		y, e := book.Apply(c, s, o)
		first = append(first, strconv.Itoa(int(e))+" "+tell(y))
	}
	for _, i := range r.Perm(len(l)) {
		if y, e := book.Apply(c, s, l[i]); strconv.Itoa(int(e))+" "+tell(y) != first[i] {
			t.Error(l[i], e, y)
		}
	}
}
