package fit_test

import (
	"math"
	"math/rand/v2"
	"slices"
	"strconv"
	"strings"
	"testing"
	"time"

	"dunnage/api"
	"dunnage/book"
	"dunnage/fit"
	"dunnage/ops"
)

const none = -1 // instead of nodes, where there is no choice

// far are numbers of no jobs; as sets, they have bits above those of the nodes, or below 0.
var far = []int{math.MinInt, math.MinInt + 1, -1 << 32, -api.MaxTime, -25, -2, -1, 25, 1 << 20, 1<<32 + 1, math.MaxInt - 1, math.MaxInt}

// fleet is one of so many nodes, of three queues, with the greatest quota.
func fleet(nodes int) api.Conf {
	return api.Conf{Nodes: nodes, Queues: 3, Quota: 4, Wave: 2, Lease: 6, Retry: 2, Deadline: 9, Room: 500, Disk: 4000}
}

// job is a queued one.
func job(least, most, pin int) api.Job { return api.Job{Min: least, Max: most, Work: 1, Pin: pin} }

// state is that of a text (goal, prior and mode; behind a bar the nodes), with these jobs, which have the nodes that say so, and are Running then.
func state(text string, jobs ...api.Job) api.State {
	head, tail, _ := strings.Cut(text, "|")
	l := strings.Fields(head)
	s := api.State{Goal: number(l[0]), Prior: number(l[1]), Mode: number(l[2]), Jobs: slices.Clone(jobs)}
	for i, word := range strings.Fields(tail) {
		n := node(word)
		s.Nodes = append(s.Nodes, n)
		if n.Job > 0 {
			s.Jobs[n.Job-1].Nodes |= 1 << i
			s.Jobs[n.Job-1].Phase = api.Running
		}
	}
	return s
}

// node is that of a word: u for up, d for down, c for cordoned, m for moving (so up and cordoned); its version; its job behind a colon.
func node(word string) api.Node {
	marks, job, has := strings.Cut(word, ":")
	n := api.Node{
		Up:      strings.ContainsAny(marks, "um"),
		Cordon:  strings.ContainsAny(marks, "cm"),
		Moving:  strings.Contains(marks, "m"),
		Version: number(strings.TrimLeft(marks, "udcm")),
	}
	if has {
		n.Job = number(job)
	}
	return n
}

func number(word string) int {
	n, e := strconv.Atoi(word)
	if e != nil {
		panic(word)
	}
	return n
}

// right is a state, which may be.
func right(t *testing.T, s api.State) api.State {
	t.Helper()
	if !book.Right(fleet(len(s.Nodes)), s) {
		t.Fatal("no state that may be:", s)
	}
	return s
}

// after is a state of six nodes behind one more op, told by its words.
func after(t *testing.T, s api.State, words string) api.State {
	t.Helper()
	o, ok := ops.Parse(words)
	x, e := book.Apply(fleet(6), s, o)
	if !ok || e != api.OK {
		t.Fatal(words, ok, e)
	}
	return x
}

// behind is the state behind ops from the first state of six nodes on.
func behind(t *testing.T, l ...string) api.State {
	t.Helper()
	s := book.New(fleet(6))
	for _, words := range l {
		s = after(t, s, words)
	}
	return s
}

// A slow reading of the chapter's words, version by version, node by node.

func slowOpen(s api.State) int {
	set := 0
	for i, n := range s.Nodes {
		if n.Up && !n.Cordon && !n.Moving && n.Job == 0 {
			set += 1 << i
		}
	}
	return set
}

func slowCount(set int) int {
	n := 0
	for i := range 6 {
		if set&(1<<i) != 0 {
			n++
		}
	}
	return n
}

// slowNodes are the nodes of a set that are up, not cordoned, not moving, and of a version.
func slowNodes(s api.State, set, version int) []int {
	var l []int
	for i, n := range s.Nodes {
		if set&(1<<i) == 0 || !n.Up || n.Cordon || n.Moving {
			continue
		}
		if n.Version == version {
			l = append(l, i)
		}
	}
	return l
}

// slowChoices are a job's choices, that of the version that is meant first, then the others, the lowest version first.
func slowChoices(s api.State, j api.Job, set int) [][]int {
	versions := []int{s.Goal, 1, 2, 3, 4, 5, 6, 7, 8, 9}
	if s.Mode == 2 {
		versions[0] = s.Prior
	}
	var l [][]int
	for _, version := range versions {
		if x := slowNodes(s, set, version); len(x) >= j.Min && (j.Pin == 0 || j.Pin == version) {
			l = append(l, x)
		}
	}
	return l
}

// slowPick is the first of the choices, none of which has more nodes, counted up to max.
func slowPick(s api.State, j api.Job, set int) (int, bool) {
	l := slowChoices(s, j, set)
	if len(l) == 0 {
		return 0, false
	}
	most := 0
	for _, x := range l {
		most = max(most, min(len(x), j.Max))
	}
	for _, x := range l {
		if len(x) >= most {
			nodes := 0
			for _, i := range x[:most] {
				nodes += 1 << i
			}
			return nodes, true
		}
	}
	panic("no choice has the most nodes")
}

func isOne(s api.State, job int) bool { return job > 0 && job <= len(s.Jobs) }

func slowNow(s api.State, job int) (int, bool) {
	if !isOne(s, job) || s.Jobs[job-1].Phase != 0 {
		return 0, false
	}
	return slowPick(s, s.Jobs[job-1], slowOpen(s))
}

func slowEver(s api.State, job int) bool {
	return isOne(s, job) && len(slowChoices(s, s.Jobs[job-1], 63)) > 0
}

// What is wanted.

func wantOpen(t *testing.T, s api.State, want int) {
	t.Helper()
	if n := fit.Open(s); n != want {
		t.Error("open", n, "want", want, "of", s.Nodes)
	}
}

func wantPick(t *testing.T, s api.State, j api.Job, set, want int) {
	t.Helper()
	n, ok := fit.Pick(s, j, set)
	if want == none && (n != 0 || ok) || want != none && (n != want || !ok) {
		t.Error("picked", n, ok, "want", want, "of", set, j, s)
	}
}

func wantNow(t *testing.T, s api.State, job, want int) {
	t.Helper()
	n, ok := fit.Now(s, job)
	if want == none && (n != 0 || ok) || want != none && (n != want || !ok) {
		t.Error("job", job, "now", n, ok, "want", want, "of", s)
	}
}

func wantEver(t *testing.T, s api.State, job int, want bool) {
	t.Helper()
	if fit.Ever(s, job) != want {
		t.Error("job", job, "ever", !want, "of", s)
	}
}

// orNone is nodes, or none.
func orNone(nodes int, ok bool) int {
	if !ok {
		return none
	}
	return nodes
}

// wantSlow holds all calls against the slow reading, of a state that may be, Pick with these sets.
func wantSlow(t *testing.T, s api.State, sets ...int) {
	t.Helper()
	right(t, s)
	wantOpen(t, s, slowOpen(s))
	for k := -1; k <= len(s.Jobs)+1; k++ {
		wantNow(t, s, k, orNone(slowNow(s, k)))
		wantEver(t, s, k, slowEver(s, k))
	}
	for _, j := range s.Jobs {
		for _, set := range sets {
			wantPick(t, s, j, set, orNone(slowPick(s, j, set)))
		}
	}
}

// P15.1: Open and Count.

// P15.1: a node is in it, if it is up, not cordoned, not moving, and has no job.
func TestOpen(t *testing.T) {
	for _, x := range []struct {
		nodes string
		want  int
	}{
		{"u1", 1}, {"d1", 0}, {"uc1", 0}, {"m1", 0}, {"dc1", 0}, {"u1:1", 0}, {"uc1:1", 0},
		{"u9", 1}, {"d9", 0},
		{"u1 u1 u1 u1 u1 u1", 63}, {"u1 u2 u3 u7 u8 u9", 63},
		{"d1 d1 d1 d1 d1 d1", 0}, {"uc1 uc1 uc1 uc1 uc1 uc1", 0}, {"m1 m1 m1 m1 m1 m1", 0},
		{"d1 u1 d1 d1 d1 d1", 2}, {"u1 d1 u1 u1 u1 u1", 61}, {"d1 dc1 uc1 m1 u1:1 u1", 32},
		{"u1 d1 dc1 uc1 m1 u1:1", 1}, {"uc1:1 u2 m1 u1 u1:1 d1", 10},
	} {
		for _, head := range []string{"1 1 0|", "2 1 0|", "9 8 1|", "9 8 2|"} {
			s := state(head+x.nodes, job(1, strings.Count(x.nodes, " ")+1, 0))
			wantOpen(t, right(t, s), x.want)
		}
	}
	wantOpen(t, api.State{}, 0)
	wantOpen(t, api.State{Nodes: []api.Node{}}, 0)
}

// P15.1: each set of six nodes that are free, the others each in another way not.
func TestOpenEach(t *testing.T) {
	for _, other := range []string{"d1", "uc1", "m1", "dc1", "u1:1", "uc1:1"} {
		for set := range 64 {
			words := strings.Fields("u1 u1 u1 u1 u1 u1")
			for i := range words {
				if set>>i&1 == 0 {
					words[i] = other
				}
			}
			wantOpen(t, right(t, state("1 1 0|"+strings.Join(words, " "), job(1, 6, 0))), set)
		}
	}
}

func wantCount(t *testing.T, set, want int) {
	t.Helper()
	if n := fit.Count(set); n != want {
		t.Error("count of", set, n, "want", want)
	}
}

// P15.1: how many of the lowest six bits are 1.
func TestCount(t *testing.T) {
	counts := []int{
		0, 1, 1, 2, 1, 2, 2, 3, 1, 2, 2, 3, 2, 3, 3, 4,
		1, 2, 2, 3, 2, 3, 3, 4, 2, 3, 3, 4, 3, 4, 4, 5,
		1, 2, 2, 3, 2, 3, 3, 4, 2, 3, 3, 4, 3, 4, 4, 5,
		2, 3, 3, 4, 3, 4, 4, 5, 3, 4, 4, 5, 4, 5, 5, 6,
	}
	for set, want := range counts {
		wantCount(t, set, want)
		for bit := 6; bit < 64; bit++ {
			wantCount(t, set|1<<bit, want)
			wantCount(t, set|-1<<bit, want)
		}
		wantCount(t, set+math.MinInt, want)
		wantCount(t, set+math.MaxInt-63, want)
	}
	for set, want := range map[int]int{
		-1: 6, -2: 5, -32: 1, -33: 5, -63: 1, -64: 0, -65: 6, math.MinInt: 0, math.MinInt + 1: 1, math.MaxInt: 6, math.MaxInt - 1: 5, 64: 0, 65: 1, 127: 6, 128: 0,
	} {
		wantCount(t, set, want)
	}
	for _, set := range far {
		wantCount(t, set, slowCount(set))
	}
}

// P15.1: Pick, written out.

// P15.1: the chapter's example, whichever version is meant.
func TestExample(t *testing.T) {
	for _, head := range []string{"1 1 0|", "2 1 0|", "3 1 0|", "1 2 2|"} {
		s := right(t, state(head+"u1 u1 u2", job(1, 3, 0)))
		wantPick(t, s, s.Jobs[0], 7, 3)
		wantNow(t, s, 1, 3)
	}
}

// picks are a state's: of a job of that min, max and pin, out of a set.
type picks struct {
	state string
	l     [][5]int // min, max, pin, set, the nodes
}

func wantPicks(t *testing.T, l []picks) {
	t.Helper()
	for _, x := range l {
		most := strings.Count(x.state, "u") + strings.Count(x.state, "d") + strings.Count(x.state, "m")
		s := right(t, state(x.state, job(1, most, 0), job(1, most, 0)))
		for _, p := range x.l {
			wantPick(t, s, job(p[0], p[1], p[2]), p[3], p[4])
		}
	}
}

// P15.1: of choices of the same size that of the version that is meant counts, else that of the lowest one.
func TestPickAlike(t *testing.T) {
	wantPicks(t, []picks{
		{"1 1 0 | u1 u1 u2 u2 u3 u3", [][5]int{{1, 2, 0, 63, 3}, {2, 2, 0, 63, 3}, {1, 1, 0, 63, 1}, {1, 6, 0, 63, 3}}},
		{"2 1 0 | u1 u1 u2 u2 u3 u3", [][5]int{{1, 2, 0, 63, 12}, {2, 2, 0, 63, 12}, {1, 1, 0, 63, 4}, {1, 6, 0, 63, 12}}},
		{"3 1 0 | u1 u1 u2 u2 u3 u3", [][5]int{{1, 2, 0, 63, 48}, {2, 2, 0, 63, 48}, {1, 1, 0, 63, 16}, {1, 6, 0, 63, 48}}},
		{"4 1 0 | u1 u1 u2 u2 u3 u3", [][5]int{{1, 2, 0, 63, 3}, {2, 2, 0, 63, 3}, {1, 1, 0, 63, 1}, {1, 6, 0, 63, 3}}},
		{"2 3 0 | u1 u1 u2 u2 u3 u3", [][5]int{{1, 2, 0, 63, 12}}},
		{"2 3 1 | u1 u1 u2 u2 u3 u3", [][5]int{{1, 2, 0, 63, 12}}},
		{"2 3 2 | u1 u1 u2 u2 u3 u3", [][5]int{{1, 2, 0, 63, 48}}},
		{"3 9 2 | u1 u1 u2 u2 u3 u3", [][5]int{{1, 2, 0, 63, 3}}},
		{"9 1 0 | u9 u8 u7 u6 u5 u4", [][5]int{{1, 1, 0, 63, 1}, {1, 6, 0, 63, 1}, {1, 1, 0, 62, 32}}},
		{"6 1 0 | u9 u8 u7 u6 u5 u4", [][5]int{{1, 1, 0, 63, 8}, {1, 6, 0, 63, 8}, {1, 1, 0, 7, 4}}},
		{"1 2 0 | u9 u8 u7 u6 u5 u4", [][5]int{{1, 1, 0, 63, 32}, {1, 6, 0, 63, 32}, {1, 1, 0, 31, 16}, {1, 1, 0, 3, 2}}},
		{"2 1 0 | u3 u2 u1 u3 u2 u1", [][5]int{{1, 2, 0, 63, 18}, {1, 1, 0, 63, 2}, {1, 2, 0, 61, 36}, {1, 1, 0, 61, 16}}},
	})
}

// P15.1: the choice with the most nodes counts, counted up to max: what is above it makes none greater.
func TestPickMost(t *testing.T) {
	wantPicks(t, []picks{
		{"2 1 0 | u1 u1 u1 u2 u2 u3", [][5]int{{1, 1, 0, 63, 8}, {1, 2, 0, 63, 24}, {1, 3, 0, 63, 7}, {1, 6, 0, 63, 7}, {2, 3, 0, 63, 7}, {3, 3, 0, 63, 7}, {2, 2, 0, 63, 24}, {3, 6, 0, 63, 7}, {4, 6, 0, 63, none}, {4, 4, 0, 63, none}}},
		{"3 1 0 | u1 u1 u1 u2 u2 u3", [][5]int{{1, 1, 0, 63, 32}, {1, 2, 0, 63, 3}, {1, 3, 0, 63, 7}, {2, 2, 0, 63, 3}}},
		{"1 1 0 | u1 u1 u2 u2 u2 u2", [][5]int{{1, 1, 0, 63, 1}, {1, 2, 0, 63, 3}, {1, 3, 0, 63, 28}, {1, 4, 0, 63, 60}, {1, 5, 0, 63, 60}, {3, 3, 0, 63, 28}, {5, 6, 0, 63, none}}},
		{"2 1 0 | u1 u1 u2 u2 u2 u2", [][5]int{{1, 1, 0, 63, 4}, {1, 2, 0, 63, 12}, {1, 3, 0, 63, 28}, {1, 6, 0, 63, 60}}},
		{"9 1 0 | u1 u2 u2 u3 u3 u3", [][5]int{{1, 1, 0, 63, 1}, {1, 2, 0, 63, 6}, {1, 3, 0, 63, 56}, {2, 2, 0, 63, 6}, {3, 3, 0, 63, 56}, {1, 6, 0, 31, 6}, {1, 6, 0, 23, 6}, {1, 6, 0, 19, 1}, {1, 6, 0, 25, 24}}},
		{"9 1 0 | u3 u3 u3 u2 u2 u1", [][5]int{{1, 1, 0, 63, 32}, {1, 2, 0, 63, 24}, {1, 3, 0, 63, 7}}},
	})
}

// P15.1: of a choice with more nodes than max those of the lowest numbers count.
func TestPickLowest(t *testing.T) {
	wantPicks(t, []picks{
		{"1 1 0 | u1 u1 u1 u1 u1 u1", [][5]int{
			{1, 1, 0, 63, 1}, {1, 2, 0, 63, 3}, {1, 3, 0, 63, 7}, {1, 4, 0, 63, 15}, {1, 5, 0, 63, 31}, {1, 6, 0, 63, 63}, {6, 6, 0, 63, 63},
			{1, 1, 0, 62, 2}, {1, 2, 0, 62, 6}, {1, 5, 0, 62, 62}, {1, 6, 0, 62, 62}, {6, 6, 0, 62, none},
			{1, 1, 0, 40, 8}, {1, 2, 0, 40, 40}, {1, 6, 0, 40, 40}, {2, 6, 0, 40, 40}, {3, 6, 0, 40, none},
			{1, 1, 0, 32, 32}, {1, 6, 0, 32, 32}, {2, 2, 0, 32, none}, {1, 1, 0, 54, 2}, {2, 3, 0, 54, 22}}},
		{"1 1 0 | d1 u1 uc1 u1 m1 u1", [][5]int{{1, 1, 0, 63, 2}, {1, 2, 0, 63, 10}, {1, 3, 0, 63, 42}, {3, 6, 0, 63, 42}, {4, 6, 0, 63, none}, {1, 1, 0, 60, 8}, {1, 2, 0, 52, 32}, {1, 6, 0, 21, none}}},
		{"1 1 0 | u1", [][5]int{{1, 1, 0, 1, 1}, {1, 1, 1, 1, 1}, {1, 1, 2, 1, none}, {2, 2, 0, 1, none}, {1, 6, 0, 1, 1}}},
		{"1 1 0 | d1", [][5]int{{1, 1, 0, 1, none}, {1, 1, 1, 1, none}}},
		{"1 1 0 | d1 d1 d1 d1 d1 d1", [][5]int{{1, 1, 0, 63, none}, {1, 6, 0, 63, none}}},
		{"1 1 0 | d1 d1 d1 d1 d1 u1", [][5]int{{1, 1, 0, 63, 32}, {1, 6, 0, 63, 32}, {2, 6, 0, 63, none}, {1, 1, 0, 31, none}}},
	})
}

// P15.1: a pin leaves nodes of its version alone, be they few, or of one that isn't meant.
func TestPickPin(t *testing.T) {
	wantPicks(t, []picks{
		{"2 1 0 | u1 u2 u2 u3 u3 u3", [][5]int{
			{1, 1, 1, 63, 1}, {1, 6, 1, 63, 1}, {2, 6, 1, 63, none},
			{1, 1, 2, 63, 2}, {1, 6, 2, 63, 6}, {2, 2, 2, 63, 6}, {3, 3, 2, 63, none},
			{1, 1, 3, 63, 8}, {1, 2, 3, 63, 24}, {1, 6, 3, 63, 56}, {3, 3, 3, 63, 56}, {4, 4, 3, 63, none},
			{1, 1, 4, 63, none}, {1, 6, 9, 63, none}, {1, 6, 1, 62, none}, {1, 6, 3, 7, none}, {1, 6, 3, 39, 32}}},
		{"9 1 0 | u9 u9 u9 u1 u1 d8", [][5]int{{1, 2, 9, 63, 3}, {1, 2, 1, 63, 24}, {1, 2, 8, 63, none}}},
		{"5 4 0 | u1 u2 u3 u4 u5 u6", [][5]int{{1, 1, 1, 63, 1}, {1, 1, 2, 63, 2}, {1, 1, 3, 63, 4}, {1, 1, 4, 63, 8}, {1, 1, 5, 63, 16}, {1, 1, 6, 63, 32}, {1, 1, 7, 63, none}, {1, 1, 0, 63, 16}}},
	})
}

// P15.1: sets of none, of all, of nodes that aren't there, of bits above those of the nodes.
func TestPickSets(t *testing.T) {
	wantPicks(t, []picks{
		{"1 1 0 | u1 u1 u1 u2 u2 u2", [][5]int{
			{1, 3, 0, 0, none}, {1, 3, 0, 63, 7}, {1, 3, 0, -1, 7}, {1, 3, 0, 64, none}, {1, 3, 0, -64, none}, {1, 3, 0, 64 + 7, 7}, {1, 3, 0, 64 + 3, 3},
			{1, 3, 0, 1 << 62, none}, {1, 3, 0, 1<<62 + 56, 56}, {1, 3, 0, math.MinInt, none}, {1, 3, 0, math.MaxInt, 7}, {1, 3, 0, math.MinInt + 48, 48}, {1, 3, 0, -8, 56}, {1, 3, 0, -2, 56}, {1, 3, 0, -3, 56}, {1, 3, 0, -16, 48}}},
		{"1 1 0 | u1 u1", [][5]int{
			{1, 6, 0, 63, 3}, {1, 6, 0, -1, 3}, {1, 6, 0, 4, none}, {1, 6, 0, 60, none}, {1, 6, 0, 62, 2}, {1, 6, 0, 0, none}, {1, 6, 0, -4, none}, {1, 6, 0, -3, 1}, {2, 6, 0, 61, none}, {3, 6, 0, 63, none}}},
		{"1 1 0 | u1", [][5]int{{1, 1, 0, 63, 1}, {1, 1, 0, 62, none}, {1, 1, 0, -2, none}, {1, 1, 0, -1, 1}}},
	})
	var s api.State
	for _, set := range append([]int{0, 1, 63}, far...) {
		wantPick(t, s, job(1, 1, 0), set, none)
	}
}

// P15.1: nodes that are up, not cordoned and not moving count, those that have a job among them.
func TestPickBusy(t *testing.T) {
	wantPicks(t, []picks{
		{"1 1 0 | u1:1 u1:1 u1 u1:2 d1 d1", [][5]int{{1, 6, 0, 63, 15}, {1, 2, 0, 63, 3}, {1, 2, 0, 9, 9}, {4, 4, 0, 63, 15}, {5, 6, 0, 63, none}, {1, 1, 0, 48, none}}},
		{"1 1 0 | uc1:1 u1:1 m1 uc1 dc1 u1", [][5]int{{1, 6, 0, 63, 34}, {1, 1, 0, 63, 2}, {3, 6, 0, 63, none}, {1, 6, 0, 29, none}}},
		{"2 1 0 | uc2:1 uc2:1 uc2 u1 u1 m2", [][5]int{{1, 6, 0, 63, 24}, {1, 1, 0, 63, 8}, {1, 1, 2, 63, none}, {1, 1, 0, 39, none}}},
		{"2 1 0 | u1:1 u1:1 u1:1 u2:2 u2:2 u2", [][5]int{{1, 6, 0, 63, 56}, {1, 6, 0, 31, 7}, {1, 2, 0, 31, 24}, {1, 6, 1, 63, 7}}},
	})
}

// P15.1: nothing of a job but its min, max and pin counts; its number, and what it has, don't.
func TestPickOtherNumbers(t *testing.T) {
	s := right(t, state("2 1 0 | u1 u1 u2 u2 u3 d3"))
	for i, x := range []func(j *api.Job, n int){
		func(j *api.Job, n int) { j.Queue = n },
		func(j *api.Job, n int) { j.Prio = n },
		func(j *api.Job, n int) { j.Work = n },
		func(j *api.Job, n int) { j.Phase = n },
		func(j *api.Job, n int) { j.Inc = n },
		func(j *api.Job, n int) { j.Nodes = n },
		func(j *api.Job, n int) { j.Since = n },
		func(j *api.Job, n int) { j.Until = n },
		func(j *api.Job, n int) { j.Epoch = n },
	} {
		for _, n := range append([]int{0, 1, 2, 3, 4, 5, 63}, far...) {
			l := []api.Job{job(1, 2, 0), job(1, 6, 1), job(3, 3, 0)}
			for k := range l {
				x(&l[k], n)
				wantPick(t, s, l[k], 63, []int{12, 3, none}[k])
			}
			if t.Failed() {
				t.Fatal("number", i)
			}
		}
	}
}

// P15.1: jobs' numbers such as no Submit makes, by the same words: a choice has at least min nodes, and of it as many as max are given.
func TestPickOddJobs(t *testing.T) {
	const least, most = math.MinInt, math.MaxInt
	wantPicks(t, []picks{
		{"2 1 0 | u1 u1 u1 u2 u2 d2", [][5]int{
			{3, 2, 0, 63, 3}, {3, 1, 0, 63, 1}, {2, 1, 0, 63, 8}, {4, 2, 0, 63, none}, {4, 1, 0, 63, none}, {7, 7, 0, -1, none}, {1, 7, 0, -1, 7},
			{-1, 6, 0, 63, 7}, {0, 1, 0, 63, 8}, {0, 3, 1, 63, 7}, {0, 1, 0, 0, 0}, {0, 6, 3, 63, 0}, {1, 0, 0, 63, 0}, {1, -1, 0, 63, 0},
			{1, 6, -1, 63, none}, {1, 6, 10, 63, none}}},
	})
	ends(t, func() {
		wantPicks(t, []picks{
			{"2 1 0 | u1 u1 u1 u2 u2 d2", [][5]int{
				{least, 2, 0, 63, 24}, {most, most, 0, 63, none}, {1, most, 0, 63, 7}, {2, most, 2, 63, 24}, {least, most, 0, 63, 7},
				{1, least, 0, 63, 0}, {1, 6, least, 63, none}, {1, 6, most, 63, none}}},
		})
	})
}

// ends waits for calls, but not for long: those that take the greatest numbers could go on without end.
func ends(t *testing.T, calls func()) {
	t.Helper()
	done := make(chan struct{})
	go func() {
		defer close(done)
		calls()
	}()
	select {
	case <-done:
	case <-time.After(20 * time.Second):
		t.Fatal("calls that don't end")
	}
}

// P15.1: by the slow reading.

// each hands on all rows of the numbers l and one more below each of most, all in the same memory.
func each(l []int, most ...int) func(yield func([]int) bool) {
	return func(yield func([]int) bool) {
		if len(most) == 0 {
			yield(l)
			return
		}
		for n := range most[0] {
			for x := range each(append(l, n), most[1:]...) {
				if !yield(x) {
					return
				}
			}
		}
	}
}

// heads are states' goals, priors and modes.
var heads = []string{"1 1 0|", "2 1 0|", "3 1 1|", "9 2 0|", "1 3 2|"}

// asks are jobs of each min and max up to most, of each pin from 0 to pins.
func asks(most, pins int) []api.Job {
	var l []api.Job
	for pin := range pins + 1 {
		for least := 1; least <= most; least++ {
			for n := least; n <= most; n++ {
				l = append(l, job(least, n, pin))
			}
		}
	}
	return l
}

// P15.1, P15.2: every state of three nodes of three versions, each up, down, cordoned, moving, with a job, and cordoned with a job; every set; every job of a pin from 0 to 4.
func TestEveryThree(t *testing.T) {
	marks := []string{"u1", "u2", "u3", "d1", "d2", "d3", "uc1", "uc2", "m1", "m2", "u1:1", "u2:1", "uc1:1", "uc3:1"}
	jobs := asks(3, 4)
	for l := range each(nil, len(marks), len(marks), len(marks), len(heads)) {
		s := state(heads[l[3]]+marks[l[0]]+" "+marks[l[1]]+" "+marks[l[2]], job(1, 3, 0))
		if !book.Right(fleet(3), s) { // a job of two versions
			continue
		}
		wantOpen(t, s, slowOpen(s))
		for _, j := range jobs {
			for set := range 8 {
				wantPick(t, s, j, set, orNone(slowPick(s, j, set)))
			}
		}
		if t.Failed() {
			t.FailNow()
		}
	}
}

// allUp is a state of nodes that are up, of versions one above these numbers.
func allUp(goal int, l []int) api.State {
	s := api.State{Goal: goal, Prior: 1}
	for _, v := range l {
		s.Nodes = append(s.Nodes, api.Node{Up: true, Version: 1 + v})
	}
	return s
}

// P15.1: every state of six nodes of three versions, all up; every set; each time some of the jobs.
func TestEverySix(t *testing.T) {
	jobs := asks(6, 3)
	n := 0
	for l := range each(nil, 3, 3, 3, 3, 3, 3) {
		s := allUp(1+n%4, l)
		for set := range 64 {
			for range 5 {
				n += 7 // no divisor of how many jobs there are
				j := jobs[n%len(jobs)]
				wantPick(t, s, j, set, orNone(slowPick(s, j, set)))
				wantPick(t, s, j, set-64, orNone(slowPick(s, j, set)))
			}
		}
		if t.Failed() {
			t.FailNow()
		}
	}
}

// P15.2: Now and Ever, written out.

// mixed is a state of jobs of each phase: 2 is Held, 3 Running, 5 Draining, 7 Ended, the others Queued; node 5 is down.
func mixed(t *testing.T) api.State {
	return behind(t,
		"submit 0 1 1 1 5 0", "submit 0 1 1 1 5 0", "submit 1 1 1 1 5 0", "submit 0 1 2 3 5 0", "submit 1 1 1 1 5 0",
		"submit 0 1 3 6 5 0", "submit 0 1 1 1 5 0", "submit 0 1 4 6 5 0", "submit 2 1 1 6 5 2", "submit 2 1 1 2 5 1",
		"down 5", "hold 2 1", "hold 3 2", "start 3 4", "hold 5 4", "start 5 4", "drain 5 9", "cancel 7")
}

// P15.2: Now of a job in each phase: out of the free nodes, of one that is Queued alone.
func TestNow(t *testing.T) {
	s := mixed(t)
	wantOpen(t, s, 24)
	for i, want := range []int{8, none, none, 24, none, none, none, none, none, 24} {
		wantNow(t, s, i+1, want)
	}
	for phase := api.Queued; phase <= api.Ended; phase++ {
		first := right(t, state("1 1 0 | u1 u1 u1 d1", job(1, 2, 0)))
		for s := range inPhase(first, phase) {
			want := none
			if phase == api.Queued {
				want = 3
			}
			wantNow(t, s, 1, want)
		}
	}
}

// inPhase hands on all states that may be that differ from one in the phase of job 1, which is Queued there, and in what nodes it has.
func inPhase(first api.State, phase int) func(yield func(s api.State) bool) {
	return func(yield func(s api.State) bool) {
		for set := range 1 << len(first.Nodes) {
			s := book.Copy(first)
			s.Jobs[0].Phase, s.Jobs[0].Nodes = phase, set
			for i := range s.Nodes {
				if set>>i&1 == 1 {
					s.Nodes[i].Job = 1
				}
			}
			if book.Right(fleet(len(s.Nodes)), s) && !yield(s) {
				return
			}
		}
	}
}

// P15.2: Ever of a job in each phase, whichever nodes it has: out of all nodes that are up, not cordoned and not moving.
func TestEver(t *testing.T) {
	s := mixed(t)
	for i, want := range []bool{true, true, true, true, true, true, true, true, false, true} {
		wantEver(t, s, i+1, want)
	}
	var met [5][2]int
	for _, x := range []struct {
		nodes            string
		least, most, pin int
		want             bool
	}{
		{"u1", 1, 1, 0, true}, {"u1 u1", 2, 2, 0, true}, {"u1 u1 u1 u1 u1 u1", 6, 6, 0, true}, {"u1 u1 u1 u1 u1 u1", 6, 6, 1, true},
		{"u1 u2 u2 u2", 3, 4, 0, true}, {"u1 u2 u2 u2", 4, 4, 0, false}, {"u1 u2 u2 u2", 3, 3, 2, true}, {"u1 u2 u2 u2", 2, 2, 1, false},
		{"u1 u2 u2 u2", 1, 2, 1, true}, {"u1 u2 u2 u2", 1, 1, 3, false}, {"u1 uc2 u2 u2", 3, 4, 0, false}, {"u1 d2 u2 u2", 3, 4, 0, false},
		{"u1 m2 u2 u2", 3, 4, 0, false}, {"u1 m2 u2 u2", 2, 4, 0, true}, {"u1 dc2 u2 u2", 3, 4, 2, false}, {"u9 u9", 2, 2, 9, true},
		{"d1 d1 d1", 1, 1, 0, false}, {"uc1", 1, 1, 0, false}, {"uc1 uc1", 1, 2, 1, false}, {"m1", 1, 1, 1, false}, {"u1 uc1 d1 m1", 1, 1, 0, true},
	} {
		for _, head := range heads {
			first := right(t, state(head+x.nodes, job(x.least, x.most, x.pin)))
			for phase := api.Queued; phase <= api.Ended; phase++ {
				for s := range inPhase(first, phase) {
					wantEver(t, s, 1, x.want)
					met[phase][len(slowChoices(s, s.Jobs[0], 63))&1]++
				}
			}
		}
	}
	for phase, l := range met {
		if l[0] == 0 || l[1] == 0 {
			t.Error("too few states of phase", phase, met)
		}
	}
}

// P15.2: nodes that have jobs count for Ever, be it the job's own or another one's, and not for Now.
func TestEverBusy(t *testing.T) {
	s := right(t, state("1 1 0 | u1:1 u1:1 u1:2 u1", job(1, 2, 0), job(1, 1, 0), job(4, 4, 0), job(2, 4, 0), job(1, 1, 0)))
	for i, want := range []int{none, none, none, none, 8} {
		wantNow(t, s, i+1, want)
		wantEver(t, s, i+1, true)
	}
	s.Nodes[0].Cordon = true
	for i, want := range []bool{true, true, false, true, true} {
		wantEver(t, right(t, s), i+1, want)
	}
}

// P15.2: nothing of what is none.
func TestNoJob(t *testing.T) {
	for _, s := range []api.State{{}, book.New(fleet(1)), book.New(fleet(6)), mixed(t), state("1 1 0 | u1", job(1, 1, 0)), behind(t, manyJobs()...)} {
		for _, k := range append(slices.Clone(far), 0, len(s.Jobs)+1, len(s.Jobs)+2) {
			wantNow(t, s, k, none)
			wantEver(t, s, k, false)
		}
		for k := range s.Jobs {
			wantNow(t, s, k+1, orNone(slowNow(s, k+1)))
			wantEver(t, s, k+1, slowEver(s, k+1))
		}
	}
}

// manyJobs are the Submits of as many jobs as there may be.
func manyJobs() []string { return slices.Repeat([]string{"submit 0 1 1 1 1 0"}, api.MaxJobs) }

// P15.2: each job is asked by its own numbers, and Now by its own phase.
func TestEachJob(t *testing.T) {
	s := right(t, state("2 1 0 | u1 u1 u1 u2 u2 u3",
		job(1, 1, 0), job(1, 2, 0), job(1, 3, 0), job(1, 1, 3), job(2, 6, 1), job(2, 2, 3), job(4, 6, 0), job(1, 6, 2)))
	nows := []int{8, 24, 7, 32, 7, none, none, 24}
	for i, want := range nows {
		wantNow(t, s, i+1, want)
		wantEver(t, s, i+1, want != none)
	}
	for i := range nows {
		s.Jobs[i].Phase = api.Ended
		for k, want := range nows {
			if k <= i {
				want = none
			}
			wantNow(t, s, k+1, want)
			wantEver(t, s, k+1, nows[k] != none)
		}
	}
}

// States that ops lead to.

// runs hands on the states of runs of ops; jobs end, and nodes fail, seldom.
func runs(each func(c api.Conf, s api.State)) {
	r := rand.New(rand.NewPCG(1, 15))
	for run := range 48 {
		c := fleet([]int{1, 6, 6, 1 + r.IntN(6)}[run%4])
		s := book.New(c)
		each(c, s)
		for range 300 {
			if x, e := book.Apply(c, s, someOp(r, c, s)); e == api.OK {
				s = x
				each(c, s)
			}
		}
	}
}

// someOp is one that can mostly be done at some time.
func someOp(r *rand.Rand, c api.Conf, s api.State) api.Op {
	k, node := 1+r.IntN(len(s.Jobs)+1), r.IntN(c.Nodes)
	seldom := r.IntN(3) == 0
	switch r.IntN(16) {
	case 0, 1:
		least := 1 + r.IntN(c.Nodes)
		return api.Op{Kind: api.Submit, A: r.IntN(3), B: r.IntN(10), C: least, D: least + r.IntN(c.Nodes-least+1), E: 1 + r.IntN(1000), F: max(0, r.IntN(7)-3)}
	case 2:
		return api.Op{Kind: api.Start, A: k, B: r.IntN(50)}
	case 3:
		return api.Op{Kind: api.Drain, A: k, B: r.IntN(50)}
	case 4:
		return api.Op{Kind: api.Evict, A: k}
	case 5:
		if seldom {
			return api.Op{Kind: api.Unhold, A: k}
		}
	case 6, 7:
		return api.Op{Kind: api.Up, A: node, B: 1 + r.IntN(3)}
	case 8:
		if seldom {
			return api.Op{Kind: api.Down, A: node}
		}
	case 9:
		if seldom {
			return api.Op{Kind: api.Done - r.IntN(2)*(api.Done-api.Cancel), A: k}
		}
	case 10:
		if seldom {
			return api.Op{Kind: api.Shrink, A: k, B: node}
		}
	case 11:
		return api.Op{Kind: api.Cordon + r.IntN(2), A: node}
	case 12:
		return api.Op{Kind: api.Move, A: node}
	case 13:
		return api.Op{Kind: api.Moved, A: node, B: 1 + r.IntN(3)}
	case 14:
		if seldom {
			return []api.Op{{Kind: api.Target, A: 1 + r.IntN(4)}, {Kind: api.Pause}, {Kind: api.Resume}, {Kind: api.Abort}}[r.IntN(4)]
		}
	}
	return someHold(r, c, s)
}

// someHold is one of free nodes, if there are any that do.
func someHold(r *rand.Rand, c api.Conf, s api.State) api.Op {
	for range 20 {
		o := api.Op{Kind: api.Hold, A: 1 + r.IntN(len(s.Jobs)+1), B: r.IntN(1 << c.Nodes)}
		if _, e := book.Apply(c, s, o); e == api.OK {
			return o
		}
	}
	return api.Op{Kind: api.Newterm}
}

// someSets are sets of all sorts.
func someSets(r *rand.Rand) []int {
	return []int{0, 63, -1, r.IntN(64), r.IntN(64), r.IntN(128) - 64, int(r.Uint64())}
}

// marked is which sort of node one is: free, up with a job, cordoned, cordoned with a job, moving, down, down and cordoned.
func marked(n api.Node) int {
	switch {
	case !n.Up && n.Cordon:
		return 6
	case !n.Up:
		return 5
	case n.Moving:
		return 4
	case n.Cordon && n.Job != 0:
		return 3
	case n.Cordon:
		return 2
	case n.Job != 0:
		return 1
	}
	return 0
}

// P15.1, P15.2: states that ops lead to; they have nodes of each sort, jobs of each phase, each mode, and jobs that have no choice, one, or more.
func TestRuns(t *testing.T) {
	r := rand.New(rand.NewPCG(2, 15))
	var phases [5]int
	var marks [7]int
	var modes [3]int
	var nows [4]int
	var evers [2]int
	runs(func(c api.Conf, s api.State) {
		if wantSlow(t, s, someSets(r)...); t.Failed() {
			t.FailNow()
		}
		modes[s.Mode]++
		for _, n := range s.Nodes {
			marks[marked(n)]++
		}
		for i, j := range s.Jobs {
			phases[j.Phase]++
			if j.Phase == api.Queued {
				nows[min(3, len(slowChoices(s, j, slowOpen(s))))]++
			}
			if slowEver(s, i+1) {
				evers[1]++
			} else {
				evers[0]++
			}
		}
	})
	for _, l := range [][]int{phases[:], marks[:], modes[:], nows[:], evers[:]} {
		if slices.Min(l) < 200 {
			t.Error("too few of a sort:", phases, marks, modes, nows, evers)
		}
	}
}

// P15.3.

// holds hands on all sets by which a job can be held.
func holds(c api.Conf, s api.State, job int) func(yield func(set int) bool) {
	return func(yield func(set int) bool) {
		for set := range 2 << c.Nodes {
			if _, e := book.Apply(c, s, api.Op{Kind: api.Hold, A: job, B: set}); e == api.OK && !yield(set) {
				return
			}
		}
	}
}

// wantHeld: a job's nodes can be held, and no others that are more; if there are none, no nodes can.
func wantHeld(t *testing.T, c api.Conf, s api.State, job int) bool {
	t.Helper()
	nodes, ok := fit.Now(s, job)
	if ok {
		x, e := book.Apply(c, s, api.Op{Kind: api.Hold, A: job, B: nodes})
		if e != api.OK || x.Jobs[job-1].Phase != api.Held || x.Jobs[job-1].Nodes != nodes {
			t.Error("job", job, "can't be held by", nodes, e, s)
		}
	}
	for set := range holds(c, s, job) {
		if !ok || slowCount(set) > slowCount(nodes) {
			t.Error("job", job, "now", nodes, ok, "but can be held by", set, s)
		}
	}
	return ok
}

// P15.3: in states of runs, each job that is Queued.
func TestCanBeHeld(t *testing.T) {
	n, met := 0, map[bool]int{}
	runs(func(c api.Conf, s api.State) {
		if n++; n%8 != 0 {
			return
		}
		for i, j := range s.Jobs {
			if j.Phase == api.Queued {
				met[wantHeld(t, c, s, i+1)]++
			}
		}
		if t.Failed() {
			t.FailNow()
		}
	})
	if met[true] < 500 || met[false] < 500 {
		t.Error("too few jobs:", met)
	}
}

// P15.3: in states of two jobs, each asked out of nodes of all sorts.
func TestCanBeHeldEach(t *testing.T) {
	marks := []string{"u1", "u2", "u3", "d1", "uc1", "m2", "u1:1", "u2:1"}
	for i, j := range asks(3, 4) {
		for l := range each(nil, len(marks), len(marks), len(marks)) {
			s := state(heads[(i+l[0])%len(heads)]+marks[l[0]]+" "+marks[l[1]]+" "+marks[l[2]], job(1, 3, 0), j)
			if book.Right(fleet(3), s) {
				wantHeld(t, fleet(3), s, 2)
			}
		}
		if t.Failed() {
			t.FailNow()
		}
	}
}

// P15.3: a job whose Inc is MaxTime gets its nodes too, though they can't be held; one below it can be.
func TestGreatestInc(t *testing.T) {
	s := right(t, state("1 1 0 | u1 u1", job(1, 1, 0), job(1, 1, 0)))
	for i, x := range []struct {
		inc  int
		want api.Errno
	}{{0, api.OK}, {1, api.OK}, {api.MaxTime - 1, api.OK}, {api.MaxTime, api.ErrFit}} {
		s.Jobs[0].Inc = x.inc
		wantNow(t, right(t, s), 1, 1)
		wantNow(t, s, 2, 1)
		if _, e := book.Apply(fleet(2), s, api.Op{Kind: api.Hold, A: 1, B: 1}); e != x.want {
			t.Error(i, e)
		}
	}
}

// P15.3: once a job is held by its nodes, these are nobody's any more; let go, it gets them again.
func TestHeldAndLetGo(t *testing.T) {
	s := behind(t, "submit 0 1 2 3 5 0", "submit 0 1 1 2 5 0", "submit 0 1 2 6 5 0", "submit 0 1 1 1 5 0")
	for i, x := range []struct {
		words string
		nows  []int
	}{
		{"hold 1 7", []int{none, 24, 56, 8}},
		{"hold 2 24", []int{none, none, none, 32}},
		{"hold 4 32", []int{none, none, none, none}},
		{"unhold 2", []int{none, 24, 24, none}},
		{"start 1 5", []int{none, 24, 24, none}},
		{"shrink 1 1", []int{none, 10, 26, none}},
		{"cordon 1", []int{none, 24, 24, none}},
		{"down 0", []int{28, 12, 28, none}},
		{"up 0 2", []int{28, 12, 28, none}},
		{"unhold 4", []int{28, 12, 60, 4}},
		{"target 2", []int{28, 12, 60, 1}},
		{"abort", []int{28, 12, 60, 4}},
	} {
		s = after(t, s, x.words)
		for k, want := range x.nows {
			wantNow(t, s, k+1, want)
		}
		if t.Failed() {
			t.Fatal("step", i, x.words)
		}
	}
}

// wantMore: of a greater set a job gets no fewer nodes, of all pairs of sets of a state.
func wantMore(t *testing.T, s api.State, j api.Job) {
	t.Helper()
	var counts [64]int // none: -1
	for set := range counts {
		nodes, ok := fit.Pick(s, j, set)
		if counts[set] = slowCount(nodes); !ok {
			counts[set] = -1
		}
	}
	for set := range counts {
		for sub := set; ; sub = (sub - 1) & set {
			if counts[sub] > counts[set] {
				t.Error("of", sub, counts[sub], "nodes, of", set, counts[set], j, s)
			}
			if sub == 0 {
				break
			}
		}
	}
}

// P15.3: Of a greater set a job gets no fewer nodes.
func TestGreaterSet(t *testing.T) {
	jobs := asks(6, 3)
	n := 0
	for l := range each(nil, 3, 3, 3, 3, 3, 3) {
		s := allUp(1+n%4, l)
		for range 4 {
			n += 7
			wantMore(t, s, jobs[n%len(jobs)])
		}
		if t.Failed() {
			t.FailNow()
		}
	}
	runs(func(_ api.Conf, s api.State) {
		if n++; n%60 == 0 {
			for _, j := range s.Jobs {
				wantMore(t, s, j)
			}
		}
	})
}

// The rules that hold everywhere.

// roomy is a state with spare room behind its lists, in which there are jobs and nodes too.
func roomy(s api.State) api.State {
	j, n := job(1, 1, 0), api.Node{Up: true, Version: 1}
	s.Jobs = append(slices.Clone(s.Jobs), j, j, j)[:len(s.Jobs)]
	s.Nodes = append(slices.Clone(s.Nodes), n, n, n)[:len(s.Nodes)]
	return s
}

func whole[T any](l []T) []T { return l[:cap(l)] }

// Rule 4: a state that is handed in isn't changed, its spare room included, nor is what stands there asked for.
func TestHandedIn(t *testing.T) {
	for _, first := range []api.State{mixed(t), state("2 1 0 | u1 u2 u2"), state("1 1 0 | u1 d1", job(2, 2, 0)), state("1 1 0 | d1", job(1, 1, 0))} {
		s := roomy(first)
		jobs, nodes := slices.Clone(whole(s.Jobs)), slices.Clone(whole(s.Nodes))
		wantSlow(t, s, 0, 63, -1, 5)
		for i := range 3 {
			wantNow(t, s, len(s.Jobs)+1+i, none)
			wantEver(t, s, len(s.Jobs)+1+i, false)
		}
		if !slices.Equal(whole(s.Jobs), jobs) || !slices.Equal(whole(s.Nodes), nodes) {
			t.Error("changed:", s)
		}
	}
}

// Rule 6: what is asked of a state that is changed where it stands is answered of it as it is.
func TestChangedInPlace(t *testing.T) {
	s := state("1 1 0 | u1 u1 u2 u2", job(1, 2, 0), job(1, 1, 0))
	for i, x := range []struct {
		change       func()
		open, a, b   int
		everA, everB bool
	}{
		{func() {}, 15, 3, 1, true, true},
		{func() { s.Goal = 2 }, 15, 12, 4, true, true},
		{func() { s.Mode = api.Aborted }, 15, 3, 1, true, true},
		{func() { s.Prior = 2 }, 15, 12, 4, true, true},
		{func() { s.Nodes[3].Up = false }, 7, 3, 4, true, true},
		{func() { s.Jobs[0].Pin = 2 }, 7, 4, 4, true, true},
		{func() { s.Jobs[0].Min = 2 }, 7, none, 4, false, true},
		{func() { s.Nodes[3].Up = true }, 15, 12, 4, true, true},
		{func() { s.Nodes[2].Cordon = true }, 11, none, 8, false, true},
		{func() { s.Nodes[2].Cordon, s.Nodes[2].Version, s.Jobs[1].Pin = false, 1, 3 }, 15, none, none, false, false},
		{func() { s.Jobs[0].Pin, s.Jobs[0].Max, s.Jobs[1].Pin = 0, 4, 1 }, 15, 7, 1, true, true},
		{func() { s.Jobs[1].Phase, s.Jobs[1].Nodes, s.Nodes[0].Job = api.Held, 1, 2 }, 14, 6, none, true, true},
	} {
		x.change()
		right(t, s)
		wantOpen(t, s, x.open)
		wantNow(t, s, 1, x.a)
		wantNow(t, s, 2, x.b)
		wantEver(t, s, 1, x.everA)
		wantEver(t, s, 2, x.everB)
		if wantSlow(t, s, 0, 7, 15, 63); t.Failed() {
			t.Fatal("change", i)
		}
	}
}

// Rule 6: the same answers, whatever was asked between.
func TestSameAgain(t *testing.T) {
	states := []api.State{mixed(t), state("2 1 0 | u1 u2 u2", job(1, 3, 0)), state("1 1 0 | d1", job(1, 1, 0)), state("3 1 2 | u3 u3 u1", job(1, 2, 0), job(2, 2, 3))}
	for range 3 {
		for _, s := range states {
			wantSlow(t, s, 0, 1, 7, 63, -1)
		}
	}
}

// Rule 1: each call ends, and none panics, not even of states that may not be, of which nothing else is promised.
func TestNoPanic(t *testing.T) {
	odd := []int{math.MinInt, -1, 0, 1, 5, 10, 63, math.MaxInt}
	var s api.State
	for i := range 150 {
		n := odd[i%8]
		s.Nodes = append(s.Nodes, api.Node{Up: i%7 != 0, Cordon: i%5 == 0, Moving: i%11 == 0, Version: odd[i%6], Job: odd[i%4]})
		s.Jobs = append(s.Jobs, api.Job{Min: odd[i%7], Max: n, Pin: odd[i%5], Phase: odd[i%3+1], Nodes: n})
	}
	ends(t, func() {
		for _, x := range []api.State{{}, s, {Nodes: s.Nodes}, {Jobs: s.Jobs}, {Nodes: s.Nodes[:7], Jobs: s.Jobs[:1], Mode: -1}, {Nodes: s.Nodes[:6], Jobs: s.Jobs, Mode: api.Aborted, Prior: math.MinInt}} {
			fit.Open(x)
			for _, k := range append(slices.Clone(odd), 24, 100, 150, 151) {
				fit.Now(x, k)
				fit.Ever(x, k)
				for _, j := range s.Jobs[:60] {
					fit.Pick(x, j, k)
				}
			}
		}
	})
}
