package image_test

import (
	"bytes"
	"math"
	"math/rand/v2"
	"slices"
	"testing"

	"dunnage/api"
	"dunnage/book"
	"dunnage/image"
	"dunnage/ops"
)

const last = 1<<53 - 1 // the greatest number of layer 1

// fleet is one of so many nodes and queues, with that quota.
func fleet(nodes, queues, quota int) api.Conf {
	return api.Conf{Nodes: nodes, Queues: queues, Quota: quota, Wave: 2, Lease: 6, Retry: 2, Deadline: 9, Room: 500, Disk: 4000}
}

// behind is the state behind ops, told by their words, from the first state on.
func behind(t *testing.T, c api.Conf, l ...string) api.State {
	t.Helper()
	s := book.New(c)
	for _, w := range l {
		o, ok := ops.Parse(w)
		x, e := book.Apply(c, s, o)
		if !ok || e != api.OK {
			t.Fatal(w, ok, e)
		}
		s = x
	}
	return s
}

func same(a, b api.State) bool {
	return slices.Equal(a.Nodes, b.Nodes) && slices.Equal(a.Jobs, b.Jobs) && a.Goal == b.Goal && a.Prior == b.Prior && a.Mode == b.Mode && a.Term == b.Term
}

// A slow reading of the chapter's words.

// numBytes are a number's, by halves and remainders; also of what is too great for one.
func numBytes(n int) []byte {
	var b []byte
	for ; n >= 128; n /= 128 {
		b = append(b, byte(128+n%128))
	}
	return append(b, byte(n))
}

// listBytes are a list's.
func listBytes(l []int) []byte {
	b := numBytes(len(l))
	for _, n := range l {
		b = append(b, numBytes(n)...)
	}
	return b
}

func slowNumbers(s api.State) []int {
	l := []int{len(s.Nodes)}
	for _, n := range s.Nodes {
		m := 0
		for i, is := range []bool{n.Up, n.Cordon, n.Moving} {
			if is {
				m += []int{1, 2, 4}[i]
			}
		}
		l = append(l, m, n.Version, n.Job)
	}
	l = append(l, len(s.Jobs))
	for _, j := range s.Jobs {
		l = append(l, j.Queue, j.Prio, j.Min, j.Max, j.Work, j.Pin, j.Phase, j.Inc, j.Nodes, j.Since, j.Until, j.Epoch)
	}
	return append(l, s.Goal, s.Prior, s.Mode, s.Term)
}

func slowPut(s api.State) []byte {
	if len(s.Nodes) > 6 || len(s.Jobs) > 24 {
		return nil
	}
	l := slowNumbers(s)
	if slices.Min(l) < 0 || slices.Max(l) > last {
		return nil
	}
	return listBytes(l)
}

// slowList are the numbers of which these are the bytes, if there are such ones.
func slowList(b []byte) ([]int, bool) {
	var l []int
	for rest := b; len(rest) > 0; {
		k := 1 + slices.IndexFunc(rest, func(c byte) bool { return c < 128 })
		if k < 1 || k > 8 {
			return nil, false
		}
		n := 0
		for i := range k {
			n += int(rest[i]%128) << (7 * i)
		}
		l = append(l, n)
		rest = rest[k:]
	}
	if len(l) == 0 || l[0] != len(l)-1 || slices.Max(l) > last || !bytes.Equal(b, listBytes(l[1:])) {
		return nil, false
	}
	return l[1:], true
}

// slowState is the state whose numbers these are: each one is taken from its place.
func slowState(l []int) (api.State, bool) {
	var s api.State
	if len(l) == 0 || l[0] > 6 || len(l) < 2+3*l[0] {
		return s, false
	}
	jobs := l[1+3*l[0]]
	if jobs > 24 || len(l) != 6+3*l[0]+12*jobs {
		return s, false
	}
	for i := range l[0] {
		n := l[1+3*i:]
		if n[0] > 7 {
			return s, false
		}
		s.Nodes = append(s.Nodes, api.Node{Up: n[0]%2 == 1, Cordon: n[0]/2%2 == 1, Moving: n[0]/4 == 1, Version: n[1], Job: n[2]})
	}
	for i := range jobs {
		j := l[2+3*l[0]+12*i:]
		s.Jobs = append(s.Jobs, api.Job{Queue: j[0], Prio: j[1], Min: j[2], Max: j[3], Work: j[4], Pin: j[5], Phase: j[6], Inc: j[7], Nodes: j[8], Since: j[9], Until: j[10], Epoch: j[11]})
	}
	rest := l[len(l)-4:]
	s.Goal, s.Prior, s.Mode, s.Term = rest[0], rest[1], rest[2], rest[3]
	return s, true
}

func slowGet(c api.Conf, b []byte) (api.State, bool) {
	l, ok := slowList(b)
	if !ok {
		return api.State{}, false
	}
	s, ok := slowState(l)
	if !ok || !book.Right(c, s) {
		return api.State{}, false
	}
	return s, true
}

// Asking.

func wantPut(t *testing.T, s api.State, b []byte) {
	t.Helper()
	if got := image.Put(s); !bytes.Equal(got, b) {
		t.Errorf("Put(%v): % x, not % x", s, got, b)
	}
}

func wantState(t *testing.T, c api.Conf, b []byte, s api.State) {
	t.Helper()
	if got, ok := image.Get(c, b); !ok || !same(got, s) {
		t.Errorf("Get(%v, % x): %v %v, not %v", c, b, got, ok, s)
	}
}

func wantNone(t *testing.T, c api.Conf, b []byte) {
	t.Helper()
	if got, ok := image.Get(c, b); ok || !same(got, api.State{}) {
		t.Errorf("Get(%v, % x): %v %v", c, b, got, ok)
	}
}

// wantSlow holds what is read against the slow reading, and what was read against what would be put (P10.3); it tells whether there is a state.
func wantSlow(t *testing.T, c api.Conf, b []byte) bool {
	t.Helper()
	s, ok := slowGet(c, b)
	if !ok {
		wantNone(t, c, b)
		return false
	}
	wantState(t, c, b, s)
	got, _ := image.Get(c, b)
	wantPut(t, got, b)
	return true
}

// States to try.

// apart is the same state, with lists of its own.
func apart(s api.State) api.State {
	s.Nodes, s.Jobs = slices.Clone(s.Nodes), slices.Clone(s.Jobs)
	return s
}

// odd is a state that may be of no fleet, no two numbers of which are the same, but those of nodes' marks.
func odd() api.State {
	return api.State{
		Nodes: []api.Node{{Up: true, Version: 11, Job: 12}, {Cordon: true, Version: 13, Job: 14}, {Moving: true, Version: 15, Job: 16}},
		Jobs: []api.Job{
			{Queue: 21, Prio: 22, Min: 23, Max: 24, Work: 25, Pin: 26, Phase: 27, Inc: 28, Nodes: 29, Since: 30, Until: 31, Epoch: 32},
			{Queue: 41, Prio: 42, Min: 43, Max: 44, Work: 45, Pin: 46, Phase: 47, Inc: 48, Nodes: 49, Since: 50, Until: 51, Epoch: 52},
		},
		Goal: 61, Prior: 62, Mode: 63, Term: 64,
	}
}

// full is a state of fleet(6, 2, 1): jobs of all phases, numbers of one byte and of more, nodes that are down, cordoned, moving, have a job, are free.
func full() api.State {
	return api.State{
		Nodes: []api.Node{
			{Up: true, Version: 2, Job: 2}, {Up: true, Cordon: true, Version: 2, Job: 2}, {Cordon: true, Version: 3},
			{Up: true, Cordon: true, Moving: true, Version: 3}, {Up: true, Version: 1, Job: 3}, {Up: true, Version: 1, Job: 4},
		},
		Jobs: []api.Job{
			{Queue: 1, Prio: 9, Min: 1, Max: 6, Work: 127, Pin: 9, Phase: api.Queued, Inc: 128, Epoch: 127},
			{Queue: 0, Prio: 0, Min: 2, Max: 3, Work: 1000, Pin: 2, Phase: api.Draining, Inc: 3, Nodes: 3, Since: 127, Until: 128, Epoch: 3},
			{Queue: 1, Prio: 4, Min: 1, Max: 1, Work: 128, Pin: 0, Phase: api.Running, Inc: 1000000, Nodes: 16, Since: 1000000, Until: 0, Epoch: 999999},
			{Queue: 1, Prio: 5, Min: 1, Max: 2, Work: 1, Pin: 1, Phase: api.Held, Inc: 1, Nodes: 32},
			{Queue: 0, Prio: 1, Min: 6, Max: 6, Work: 999, Pin: 8, Phase: api.Ended, Inc: 16384, Epoch: 16383},
		},
		Goal: 3, Prior: 2, Mode: api.Paused, Term: 300,
	}
}

// ofFull is the fleet that full is of.
func ofFull() api.Conf { return fleet(6, 2, 1) }

// most is a state of fleet(6, 2, 1) with as many nodes and jobs as there may be.
func most() api.State {
	s := full()
	for len(s.Jobs) < api.MaxJobs {
		s.Jobs = append(s.Jobs, api.Job{Queue: len(s.Jobs) % 2, Prio: len(s.Jobs) % 10, Min: 1, Max: 1 + len(s.Jobs)%6, Work: 41 * len(s.Jobs)})
	}
	return s
}

// edges are numbers where one byte more is needed, and those that a state's numbers end at.
func edges() []int {
	l := []int{2, 3, 4, 5, 6, 7, 8, 9, 10, 999, 1000, 1001, 999999, 1000000, 1000001, last - 1}
	for i := 7; i < 53; i += 7 {
		l = append(l, 1<<i-1, 1<<i, 1<<i+1)
	}
	return append(l, 0, 1, last)
}

// noNumbers are none of layer 1.
func noNumbers() []int {
	return []int{-1, -2, -128, -last, math.MinInt, last + 1, last + 2, 1 << 56, 1 << 62, math.MaxInt}
}

// fields are all numbers of a state but its marks and counts.
func fields(s *api.State) []*int {
	var l []*int
	for i := range s.Nodes {
		l = append(l, &s.Nodes[i].Version, &s.Nodes[i].Job)
	}
	for i := range s.Jobs {
		j := &s.Jobs[i]
		l = append(l, &j.Queue, &j.Prio, &j.Min, &j.Max, &j.Work, &j.Pin, &j.Phase, &j.Inc, &j.Nodes, &j.Since, &j.Until, &j.Epoch)
	}
	return append(l, &s.Goal, &s.Prior, &s.Mode, &s.Term)
}

// runs hands on the states of runs of ops, of fleets of one node and of six, and of others.
func runs(t *testing.T, each func(c api.Conf, s api.State)) {
	r := rand.New(rand.NewPCG(1, 10))
	for n := range 60 {
		c := fleet([]int{1, 6, 6, 1 + r.IntN(6)}[n%4], 1+r.IntN(3), r.IntN(3))
		s := book.New(c)
		each(c, s)
		for range 500 {
			x, e := book.Apply(c, s, someOp(r, c, s))
			if e == api.OK {
				s = x
				each(c, s)
			}
		}
	}
}

// someOp is one that can mostly be done at some time; ops that end jobs, or make a node fail, come seldom.
func someOp(r *rand.Rand, c api.Conf, s api.State) api.Op {
	job, node, version := 1+r.IntN(len(s.Jobs)+1), r.IntN(c.Nodes), 1+r.IntN(3)
	time := []int{0, 1, 127, 128, 300, 16384, api.MaxTime}[r.IntN(7)]
	switch kind := 1 + r.IntN(api.Newterm); kind {
	case api.Submit:
		least := 1 + r.IntN(c.Nodes)
		return api.Op{Kind: kind, A: r.IntN(c.Queues), B: r.IntN(10), C: least, D: least + r.IntN(c.Nodes-least+1), E: 1 + r.IntN(1000), F: r.IntN(4)}
	case api.Hold:
		return someHold(r, c, s)
	case api.Start, api.Drain:
		return api.Op{Kind: kind, A: job, B: time}
	case api.Saved:
		return api.Op{Kind: kind, A: job, B: r.IntN(4)}
	case api.Shrink:
		return api.Op{Kind: kind, A: job, B: node}
	case api.Up, api.Moved:
		return api.Op{Kind: kind, A: node, B: version}
	case api.Target:
		return api.Op{Kind: kind, A: version}
	case api.Cordon, api.Uncordon, api.Move:
		return api.Op{Kind: kind, A: node}
	case api.Down:
		if r.IntN(6) == 0 {
			return api.Op{Kind: kind, A: node}
		}
	case api.Cancel, api.Done:
		if r.IntN(6) == 0 {
			return api.Op{Kind: kind, A: job}
		}
	case api.Unhold, api.Evict:
		return api.Op{Kind: kind, A: job}
	default:
		return api.Op{Kind: kind}
	}
	return someHold(r, c, s)
}

// someHold is one of free nodes, if there are any that do.
func someHold(r *rand.Rand, c api.Conf, s api.State) api.Op {
	for range 50 {
		o := api.Op{Kind: api.Hold, A: 1 + r.IntN(len(s.Jobs)+1), B: r.IntN(1 << c.Nodes)}
		if _, e := book.Apply(c, s, o); e == api.OK {
			return o
		}
	}
	return api.Op{Kind: api.Newterm}
}

// P10.1.

// P10.1: the chapter's example; and the first state of six nodes.
func TestFirst(t *testing.T) {
	one := []byte{9, 1, 1, 1, 0, 0, 1, 1, 0, 0}
	wantPut(t, book.New(fleet(1, 1, 1)), one)
	wantState(t, fleet(1, 1, 1), one, api.State{Nodes: []api.Node{{Up: true, Version: 1}}, Goal: 1, Prior: 1})
	six := []byte{24, 6, 1, 1, 0, 1, 1, 0, 1, 1, 0, 1, 1, 0, 1, 1, 0, 1, 1, 0, 0, 1, 1, 0, 0}
	wantPut(t, book.New(fleet(6, 3, 4)), six)
	wantState(t, fleet(6, 3, 4), six, book.New(fleet(6, 3, 4)))
}

// P10.1: each number at its place; a state needn't be such as may be.
func TestPut(t *testing.T) {
	wantPut(t, api.State{}, []byte{6, 0, 0, 0, 0, 0, 0})
	wantPut(t, odd(), []byte{39, 3, 1, 11, 12, 2, 13, 14, 4, 15, 16, 2,
		21, 22, 23, 24, 25, 26, 27, 28, 29, 30, 31, 32, 41, 42, 43, 44, 45, 46, 47, 48, 49, 50, 51, 52, 61, 62, 63, 64})
	wantPut(t, api.State{Jobs: []api.Job{{Work: 300}}, Goal: 127, Prior: 128, Mode: last, Term: 16384},
		[]byte{18, 0, 1, 0, 0, 0, 0, 0xac, 2, 0, 0, 0, 0, 0, 0, 0, 127, 128, 1, 255, 255, 255, 255, 255, 255, 255, 15, 128, 128, 1})
}

// P10.1, P10.2: a state with jobs of all phases, written out.
func TestFull(t *testing.T) {
	b := []byte{84, 6, 1, 2, 2, 3, 2, 2, 2, 3, 0, 7, 3, 0, 1, 1, 3, 1, 1, 4, 5,
		1, 9, 1, 6, 127, 9, 0, 128, 1, 0, 0, 0, 127,
		0, 0, 2, 3, 0xe8, 7, 2, 3, 3, 3, 127, 128, 1, 3,
		1, 4, 1, 1, 128, 1, 0, 2, 0xc0, 0x84, 0x3d, 16, 0xc0, 0x84, 0x3d, 0, 0xbf, 0x84, 0x3d,
		1, 5, 1, 2, 1, 1, 1, 1, 32, 0, 0, 0,
		0, 1, 6, 6, 0xe7, 7, 8, 4, 128, 128, 1, 0, 0, 0, 255, 127,
		3, 2, 1, 0xac, 2}
	wantPut(t, full(), b)
	wantState(t, ofFull(), b, full())
}

// P10.1: a node's first number is 1, 2 and 4, alone and together, of each node.
func TestMarks(t *testing.T) {
	for m := range 8 {
		for i := range 6 {
			s := api.State{Nodes: make([]api.Node, 6)}
			s.Nodes[i] = api.Node{Up: m&1 != 0, Cordon: m&2 != 0, Moving: m&4 != 0, Version: 5, Job: 6}
			b := append([]byte{24, 6}, make([]byte, 23)...)
			copy(b[2+3*i:], []byte{byte(m), 5, 6})
			wantPut(t, s, b)
		}
	}
}

// P10.1: each number at its edges; none, if one is no number.
func TestPutNumbers(t *testing.T) {
	for _, first := range []api.State{{}, book.New(fleet(1, 1, 1)), odd(), full(), most()} {
		for i := range fields(&first) {
			for _, n := range edges() {
				s := apart(first)
				*fields(&s)[i] = n
				wantPut(t, s, slowPut(s))
				if len(image.Put(s)) == 0 {
					t.Error("none of", s)
				}
			}
			for _, n := range noNumbers() {
				s := apart(first)
				*fields(&s)[i] = n
				wantPut(t, s, nil)
			}
		}
	}
}

// P10.1: at most 6 nodes, and 24 jobs; no nodes, and no jobs.
func TestPutMost(t *testing.T) {
	for _, nodes := range []int{0, 1, 5, 6, 7, 8, 43, 300, 1 << 16} {
		for _, jobs := range []int{0, 1, 2, 23, 24, 25, 26, 100, 1 << 16} {
			s := api.State{Nodes: make([]api.Node, nodes), Jobs: make([]api.Job, jobs), Goal: 1, Prior: 1}
			wantPut(t, s, slowPut(s))
			if (len(image.Put(s)) > 0) != (nodes <= 6 && jobs <= 24) {
				t.Error(nodes, jobs)
			}
		}
	}
	b := image.Put(most())
	if !bytes.Equal(b[:3], []byte{0xb8, 2, 6}) { // 312 numbers
		t.Errorf("% x", b)
	}
}

// P10.2.

// P10.2: all of the bytes: none, if they end too early, at every place, though they go on in their spare room.
func TestEnds(t *testing.T) {
	for _, s := range []api.State{book.New(ofFull()), full(), most()} {
		b := slowPut(s)
		wantState(t, ofFull(), b, s)
		for k := range b {
			wantNone(t, ofFull(), b[:k])
			wantNone(t, ofFull(), slices.Clone(b[:k]))
			wantNone(t, ofFull(), b[k+1:])
		}
	}
}

// P10.2: none, if they go on behind the end, with whatever; or if something is ahead of them.
func TestBehind(t *testing.T) {
	for _, s := range []api.State{book.New(ofFull()), full(), most()} {
		b := slowPut(s)
		for _, x := range [][]byte{{0}, {1}, {127}, {128}, {255}, {128, 0}, {0, 0, 0}, b} {
			wantNone(t, ofFull(), slices.Concat(b, x))
			wantNone(t, ofFull(), slices.Concat(x, b))
		}
		l := slowNumbers(s)
		for _, n := range []int{0, 1, 128, last} { // numbers of the list, and of no state
			wantNone(t, ofFull(), listBytes(append(slices.Clone(l), n)))
			wantNone(t, ofFull(), listBytes(append([]int{n}, l...)))
		}
	}
}

// P10.2: none, if a list's numbers end too early, at every one of them.
func TestNumbersEnd(t *testing.T) {
	for _, s := range []api.State{book.New(fleet(1, 1, 1)), book.New(ofFull()), full(), most()} {
		l := slowNumbers(s)
		for k := range l {
			wantNone(t, ofFull(), listBytes(l[:k]))
			wantNone(t, fleet(1, 1, 1), listBytes(l[:k]))
			wantNone(t, ofFull(), listBytes(slices.Delete(slices.Clone(l), k, k+1)))
		}
	}
}

// P10.2: none, if how many numbers, nodes or jobs there are is told wrong, by one or by many.
func TestCounts(t *testing.T) {
	for _, s := range []api.State{book.New(ofFull()), full(), most()} {
		l := slowNumbers(s)
		numbers := listBytes(l)[len(numBytes(len(l))):]
		for _, n := range append(edges(), len(l)-1, len(l)+1, last+1) {
			if n != len(l) {
				wantNone(t, ofFull(), append(numBytes(n), numbers...))
			}
		}
		for _, at := range []int{0, 1 + 3*len(s.Nodes)} {
			for _, n := range append(edges(), l[at]-1, l[at]+1, last+1) {
				if n != l[at] && n >= 0 {
					x := slices.Clone(l)
					x[at] = n
					wantNone(t, ofFull(), listBytes(x))
				}
			}
		}
	}
}

// P10.2: bytes of states with more or less nodes than the fleet has, or more than 24 jobs; these are told right.
func TestOtherCounts(t *testing.T) {
	for nodes := range 9 {
		s := api.State{Nodes: slices.Repeat([]api.Node{{Up: true, Version: 1}}, nodes), Goal: 1, Prior: 1}
		for jobs := range 28 {
			s.Jobs = slices.Repeat([]api.Job{{Min: 1, Max: 1, Work: 1}}, jobs)
			b := listBytes(slowNumbers(s))
			for of := range 8 {
				if of > 0 && of == nodes && nodes <= 6 && jobs <= 24 {
					wantState(t, fleet(of, 1, 1), b, s)
				} else {
					wantNone(t, fleet(of, 1, 1), b)
				}
			}
		}
	}
}

// P10.2: which marks a node may have: a free one, and one with a job; 8, and what is greater, none.
func TestGetMarks(t *testing.T) {
	c := fleet(2, 1, 1)
	s := behind(t, c, "submit 0 0 1 1 1 0", "hold 1 2")
	for _, m := range append(edges(), 11, 12, 13, 14, 15, 16, 17, 255, 256) {
		for i, may := range [][]int{{0, 1, 2, 3, 7}, {1, 3}} {
			l := slowNumbers(s)
			l[1+3*i] = m
			if !slices.Contains(may, m) {
				wantNone(t, c, listBytes(l))
				continue
			}
			x := apart(s)
			x.Nodes[i].Up, x.Nodes[i].Cordon, x.Nodes[i].Moving = m&1 != 0, m&2 != 0, m&4 != 0
			wantState(t, c, listBytes(l), x)
		}
	}
}

// P10.2: bytes that are no numbers, or not the shortest ones, or of what is too great, in place of each number.
func TestNoNumbers(t *testing.T) {
	for _, s := range []api.State{book.New(ofFull()), full()} {
		l := slowNumbers(s)
		all := append([]int{len(l)}, l...)
		for k, n := range all {
			long := append(numBytes(n), 0)
			long[len(long)-2] |= 128
			longer := append(slices.Clone(long), 0)
			longer[len(longer)-2] |= 128
			below := append(bytes.Repeat([]byte{255}, 9), 1) // as -1 would be, if it were one
			for _, x := range [][]byte{nil, long, longer, {128}, {128, 0}, {255}, numBytes(last + 1), numBytes(last + 2), numBytes(1 << 56), numBytes(1<<56 + n), numBytes(1 << 62), below} {
				var b []byte
				for i, m := range all {
					if i == k {
						b = append(b, x...)
					} else {
						b = append(b, numBytes(m)...)
					}
				}
				wantNone(t, ofFull(), b)
			}
		}
	}
}

// P10.2, P10.3: each number at its edges, and one above the greatest: by a slow reading of the words.
func TestGetNumbers(t *testing.T) {
	read := 0
	for _, s := range []api.State{book.New(ofFull()), full(), most()} {
		l := slowNumbers(s)
		for k := range l {
			for _, n := range append(edges(), last+1) {
				x := slices.Clone(l)
				x[k] = n
				if wantSlow(t, ofFull(), listBytes(x)) {
					read++
				}
			}
		}
	}
	if read < 1000 {
		t.Error("too few were read:", read)
	}
}

// P10.2: numbers of states that may be, at the edges of each, written out: a job's, and a state's.
func TestGetEdges(t *testing.T) {
	for _, f := range []func(s *api.State, n int) int{
		func(s *api.State, n int) int { s.Jobs[0].Work = n; return 1000 },
		func(s *api.State, n int) int { s.Jobs[1].Since = n; return api.MaxTime },
		func(s *api.State, n int) int { s.Jobs[1].Until = n; return api.MaxTime },
		func(s *api.State, n int) int { s.Jobs[0].Inc, s.Jobs[0].Epoch = n, 0; return api.MaxTime },
		func(s *api.State, n int) int { s.Jobs[0].Inc, s.Jobs[0].Epoch = n, n; return api.MaxTime },
		func(s *api.State, n int) int { s.Term = n; return api.MaxTime },
	} {
		for _, n := range []int{1, 126, 127, 128, 129, 999, 1000, 1001, 16383, 16384, 999999, 1000000, 1000001, last, last + 1} {
			s := full()
			greatest := f(&s, n)
			b := listBytes(slowNumbers(s))
			if n <= greatest {
				wantState(t, ofFull(), b, s)
			} else {
				wantNone(t, ofFull(), b)
			}
		}
	}
}

// mayNot holds that nothing is read of full's bytes, behind each of these changes; though they are put.
func mayNot(t *testing.T, l []func(s *api.State)) {
	t.Helper()
	wantState(t, ofFull(), slowPut(full()), full())
	for i, change := range l {
		s := full()
		change(&s)
		if same(s, full()) {
			t.Error("nothing is changed:", i)
		}
		wantPut(t, s, slowPut(s))
		wantNone(t, ofFull(), slowPut(s))
	}
}

// P10.2: bytes of states that may not be of the fleet, each in one way: nodes, and the state's own numbers.
func TestNotRight(t *testing.T) {
	mayNot(t, []func(s *api.State){
		func(s *api.State) { s.Nodes = s.Nodes[:3]; s.Jobs = s.Jobs[:2] },
		func(s *api.State) { s.Nodes[2].Version = 0 },
		func(s *api.State) { s.Nodes[2].Version = 10 },
		func(s *api.State) { s.Nodes[3].Up = false },
		func(s *api.State) { s.Nodes[3].Cordon = false },
		func(s *api.State) { s.Nodes[1].Moving = true },
		func(s *api.State) { s.Nodes[2].Job = 1 },
		func(s *api.State) { s.Nodes[2].Job = 2 },
		func(s *api.State) { s.Nodes[2].Job = 6 },
		func(s *api.State) { s.Nodes[2].Job = 25 },
		func(s *api.State) { s.Goal = 0 },
		func(s *api.State) { s.Goal = 10 },
		func(s *api.State) { s.Prior = 0 },
		func(s *api.State) { s.Prior = 10 },
		func(s *api.State) { s.Mode = 3 },
		func(s *api.State) { s.Term = 1000001 },
	})
}

// P10.2: bytes of states that may not be of the fleet, each in one way: jobs.
func TestNotRightJobs(t *testing.T) {
	mayNot(t, []func(s *api.State){
		func(s *api.State) { s.Jobs[0].Queue = 2 },
		func(s *api.State) { s.Jobs[0].Prio = 10 },
		func(s *api.State) { s.Jobs[0].Min = 0 },
		func(s *api.State) { s.Jobs[4].Max = 5 },
		func(s *api.State) { s.Jobs[0].Max = 7 },
		func(s *api.State) { s.Jobs[0].Work = 0 },
		func(s *api.State) { s.Jobs[0].Work = 1001 },
		func(s *api.State) { s.Jobs[0].Pin = 10 },
		func(s *api.State) { s.Jobs[0].Phase = 5 },
		func(s *api.State) { s.Jobs[1].Phase = 5 },
		func(s *api.State) { s.Jobs[0].Inc = 126 },
		func(s *api.State) { s.Jobs[0].Inc = 1000001 },
		func(s *api.State) { s.Jobs[0].Since = 1000001 },
		func(s *api.State) { s.Jobs[0].Until = 1000001 },
		func(s *api.State) { s.Jobs[0].Epoch = 129 },
		func(s *api.State) { s.Jobs[0].Nodes = 4 },
		func(s *api.State) { s.Jobs[4].Nodes = 63 },
		func(s *api.State) { s.Jobs[1].Phase = api.Queued },
		func(s *api.State) { s.Jobs[1].Phase = api.Ended },
		func(s *api.State) { s.Jobs[0].Phase = api.Held },
		func(s *api.State) { s.Jobs[0].Phase = api.Running },
		func(s *api.State) { s.Jobs[1].Nodes, s.Nodes[0].Job = 2, 0 },
		func(s *api.State) { s.Jobs[1].Nodes = 67 },
		func(s *api.State) { s.Jobs[1].Nodes = last },
		func(s *api.State) { s.Jobs[1].Min, s.Jobs[1].Max = 1, 1 },
		func(s *api.State) { s.Nodes[0].Up = false },
		func(s *api.State) { s.Nodes[0].Job = 0 },
		func(s *api.State) { s.Nodes[0].Job = 1 },
		func(s *api.State) { s.Nodes[0].Version, s.Jobs[1].Pin = 3, 0 },
		func(s *api.State) { s.Jobs[1].Pin = 3 },
		func(s *api.State) { s.Jobs[2].Phase, s.Jobs[2].Queue = api.Draining, 0 },
	})
}

// P10.2: nothing is read of a fleet that may not be, and of another one what may be of that.
func TestFleets(t *testing.T) {
	b := slowPut(full())
	for i, edge := range [][2]int{{1, 6}, {1, 3}, {0, 4}, {1, 6}, {2, 30}, {1, 20}, {1, 60}, {0, 5000}, {2000, 40000}} {
		for _, n := range []int{edge[0] - 1, edge[1] + 1, math.MinInt, math.MaxInt} {
			c := ofFull()
			*[]*int{&c.Nodes, &c.Queues, &c.Quota, &c.Wave, &c.Lease, &c.Retry, &c.Deadline, &c.Room, &c.Disk}[i] = n
			wantNone(t, c, b)
		}
	}
	wantNone(t, api.Conf{}, b)
	wantNone(t, api.Conf{}, []byte{6, 0, 0, 0, 1, 1, 0, 0})
	wantNone(t, api.Conf{}, nil)
	wantNone(t, fleet(5, 2, 1), b)
	wantNone(t, fleet(6, 1, 1), b)
	wantNone(t, fleet(6, 2, 0), b)
	wantState(t, fleet(6, 3, 4), b, full())
	c := api.Conf{Nodes: 6, Queues: 2, Quota: 1, Wave: 6, Lease: 30, Retry: 20, Deadline: 60, Room: 5000, Disk: 40000}
	wantState(t, c, b, full())
}

// P10.3.

// reached are what the states of runs have been: jobs' phases, modes, nodes' marks, how many jobs.
type reached struct {
	phases [5]int
	modes  [3]int
	marks  [8]int
	jobs   [25]int
	hosts  [4]int // marks of nodes that have jobs
}

func (r *reached) see(s api.State) {
	for _, j := range s.Jobs {
		r.phases[j.Phase]++
	}
	r.modes[s.Mode]++
	r.jobs[len(s.Jobs)]++
	l := slowNumbers(s)
	for i, n := range s.Nodes {
		r.marks[l[1+3*i]]++
		if n.Job != 0 {
			r.hosts[l[1+3*i]]++
		}
	}
}

// all says whether runs have been wherever they may be: nodes that are up, down, cordoned, moving, together as they may be; no job, and 24.
func (r *reached) all(t *testing.T) {
	most := []int{r.jobs[0], r.jobs[24], r.marks[0], r.marks[1], r.marks[2], r.marks[3], r.marks[7], r.hosts[1], r.hosts[3]}
	most = append(append(most, r.phases[:]...), r.modes[:]...)
	if slices.Min(most) < 50 {
		t.Error("too few states of a kind:", *r)
	}
}

// P10.1, P10.2, P10.3: what ops lead to is put as the words say, and read again; of other fleets, too, if it may be of these.
func TestRuns(t *testing.T) {
	var r reached
	runs(t, func(c api.Conf, s api.State) {
		r.see(s)
		b := slowPut(s)
		wantPut(t, s, b)
		wantState(t, c, b, s)
		for _, x := range []api.Conf{fleet(c.Nodes, 1, 0), fleet(c.Nodes, 2, 1), fleet(1+c.Nodes%6, 3, 2)} {
			wantSlow(t, x, b)
		}
	})
	r.all(t)
}

// P10.2, P10.3: each byte changed to each other one, left out, or put in once more: by a slow reading of the words.
func TestChanged(t *testing.T) {
	read := 0
	small := behind(t, fleet(2, 1, 1), "submit 0 3 1 2 300 1", "hold 1 2", "cordon 0", "newterm")
	for _, x := range []struct {
		c api.Conf
		s api.State
	}{{fleet(1, 1, 1), book.New(fleet(1, 1, 1))}, {fleet(2, 1, 1), small}, {ofFull(), full()}} {
		b := slowPut(x.s)
		for at := range b {
			for v := range 256 {
				y := slices.Clone(b)
				y[at] = byte(v)
				if wantSlow(t, x.c, y) {
					read++
				}
				wantSlow(t, x.c, slices.Insert(slices.Clone(b), at, byte(v)))
			}
			wantSlow(t, x.c, slices.Delete(slices.Clone(b), at, at+1))
		}
	}
	if read < 1000 {
		t.Error("too few were read:", read)
	}
}

// P10.2, P10.3: lists of small numbers, and bytes, that are anything.
func TestAnything(t *testing.T) {
	r := rand.New(rand.NewPCG(2, 10))
	read := 0
	for range 200000 {
		l := make([]int, []int{9, 9, 9, 12, r.IntN(30)}[r.IntN(5)])
		for i := range l {
			l[i] = []int{0, 1, 1, 2, r.IntN(10), r.IntN(300)}[r.IntN(6)]
		}
		if len(l) == 9 {
			l[0], l[4] = 1, 0
		}
		for nodes := 1; nodes < 4; nodes++ {
			if wantSlow(t, fleet(nodes, 1, 1), listBytes(l)) {
				read++
			}
		}
	}
	for range 20000 {
		b := make([]byte, r.IntN(40))
		for i := range b {
			b[i] = byte(r.IntN(256) >> r.IntN(8))
		}
		wantSlow(t, fleet(1, 1, 1), b)
	}
	if read < 1000 {
		t.Error("too few were read:", read)
	}
}

// P10.2: bytes without an end of what they tell: none, and soon.
func TestMany(t *testing.T) {
	for _, x := range []byte{0, 1, 7, 127, 128, 255} {
		b := bytes.Repeat([]byte{x}, 1<<16)
		wantNone(t, ofFull(), b)
		wantNone(t, ofFull(), append(numBytes(len(b)), b...))
		wantNone(t, ofFull(), slices.Concat(numBytes(1+len(b)), numBytes(last), b))
		wantNone(t, ofFull(), slices.Concat(numBytes(312), numBytes(last), b[:311]))
		wantNone(t, ofFull(), slices.Concat(numBytes(312), []byte{0}, numBytes(last), b[:310]))
	}
}

// The rules that hold everywhere.

// Rule 3: nil and empty lists are one.
func TestNilAndEmpty(t *testing.T) {
	c := fleet(2, 1, 1)
	s := book.New(c)
	for _, jobs := range [][]api.Job{nil, {}, make([]api.Job, 0, 5)} {
		s.Jobs = jobs
		wantPut(t, s, []byte{12, 2, 1, 1, 0, 1, 1, 0, 0, 1, 1, 0, 0})
		wantState(t, c, image.Put(s), book.New(c))
		for _, nodes := range [][]api.Node{nil, {}, make([]api.Node, 0, 5)} {
			wantPut(t, api.State{Nodes: nodes, Jobs: jobs}, []byte{6, 0, 0, 0, 0, 0, 0})
			wantPut(t, api.State{Nodes: nodes, Jobs: jobs, Term: -1}, nil)
		}
	}
	for _, b := range [][]byte{nil, {}, make([]byte, 0, 20), {0}, {0, 0}} {
		wantNone(t, c, b)
	}
}

// roomy is the same list, with spare room behind it that has something in it.
func roomy[T any](l []T, x T) []T {
	return append(slices.Clone(l), x, x, x)[:len(l)]
}

func whole[T any](l []T) []T { return l[:cap(l)] }

// fill writes over all of a list, its spare room too.
func fill[T any](l []T, x T) {
	for i := range whole(l) {
		whole(l)[i] = x
	}
}

// Rule 4: what is handed in isn't changed, its spare room included.
func TestHandedIn(t *testing.T) {
	for _, first := range []api.State{book.New(ofFull()), odd(), full(), most()} {
		s := first
		s.Nodes, s.Jobs = roomy(s.Nodes, api.Node{Version: 77}), roomy(s.Jobs, api.Job{Work: 77})
		nodes, jobs := slices.Clone(whole(s.Nodes)), slices.Clone(whole(s.Jobs))
		image.Put(s)
		if !slices.Equal(whole(s.Nodes), nodes) || !slices.Equal(whole(s.Jobs), jobs) {
			t.Error("changed:", s)
		}
		b := roomy(slowPut(first), 77)
		was := slices.Clone(whole(b))
		image.Get(ofFull(), b)
		if !bytes.Equal(whole(b), was) {
			t.Errorf("changed: % x", b)
		}
	}
}

// Rule 4: what is handed in isn't kept, and what is answered is new memory: neither changes the other.
func TestApart(t *testing.T) {
	for _, first := range []api.State{book.New(ofFull()), full(), most()} {
		want := slowPut(first)
		s := apart(first)
		b, again := image.Put(s), image.Put(s)
		fill(s.Nodes, api.Node{Version: 99})
		fill(s.Jobs, api.Job{Work: 99})
		if !bytes.Equal(b, want) {
			t.Errorf("bytes changed: % x", b)
		}
		fill(again, 99)
		if !bytes.Equal(b, want) {
			t.Errorf("bytes changed: % x", b)
		}
		wantPut(t, first, want)
		x, _ := image.Get(ofFull(), b)
		y, _ := image.Get(ofFull(), b)
		fill(b, 99)
		if !same(x, first) {
			t.Error("state changed:", x)
		}
		fill(y.Nodes, api.Node{Version: 99})
		fill(y.Jobs, api.Job{Work: 99})
		if !same(x, first) {
			t.Error("state changed:", x)
		}
		wantState(t, ofFull(), want, first)
	}
	one := image.Put(api.State{})
	fill(one, 99)
	wantPut(t, api.State{}, []byte{6, 0, 0, 0, 0, 0, 0})
}

// Rule 4: a state that is answered changes nothing of its bytes.
func TestApartOfBytes(t *testing.T) {
	b := slowPut(full())
	was := slices.Clone(b)
	s, _ := image.Get(ofFull(), b)
	fill(s.Nodes, api.Node{Version: 99})
	fill(s.Jobs, api.Job{Work: 99})
	if !bytes.Equal(b, was) {
		t.Errorf("% x", b)
	}
	wantState(t, ofFull(), b, full())
}

// Rule 6: the same answers, whatever was asked between.
func TestSameAgain(t *testing.T) {
	asked := []api.State{full(), book.New(fleet(1, 1, 1)), most(), {}, odd()}
	for range 3 {
		for _, s := range asked {
			b := slowPut(s)
			wantPut(t, s, b)
			for _, c := range []api.Conf{ofFull(), fleet(1, 1, 1), {}} {
				wantSlow(t, c, b)
				wantNone(t, c, append(b[:len(b):len(b)], 0))
				wantNone(t, c, b[1:])
			}
			wantPut(t, api.State{Term: -1}, nil)
		}
	}
}
