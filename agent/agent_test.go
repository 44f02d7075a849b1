package agent_test

import (
	"bytes"
	"math"
	"testing"

	"dunnage/agent"
	"dunnage/api"
	"dunnage/store"
)

// words is an agent as the chapter's words have it: numbers by their names.
type words map[string]int

func wordsOf(a api.Agent) words {
	w := words{"term": a.Term, "gen": a.Gen, "mode": a.Mode, "job": a.Job, "inc": a.Inc, "version": a.Version, "lease": a.Lease, "worked": a.Worked, "to": a.To}
	if a.Up {
		w["up"] = 1
	}
	return w
}

func (w words) agent() api.Agent {
	return api.Agent{Up: w["up"] == 1, Term: w["term"], Gen: w["gen"], Mode: w["mode"], Job: w["job"], Inc: w["inc"], Version: w["version"], Lease: w["lease"], Worked: w["worked"], To: w["to"]}
}

func (w words) letsGo() {
	for _, name := range []string{"mode", "job", "inc", "lease", "worked"} {
		w[name] = 0
	}
}

// takes says whether an order is taken, and does it then.
func (w words) takes(m api.Msg, now int, s *store.Store) bool {
	if w["up"] == 0 || m.Kind < 1 || m.Kind > 5 {
		return false
	}
	if m.Term < w["term"] {
		return false
	}
	if m.Term == w["term"] && m.Gen < w["gen"] {
		return false
	}
	w["term"], w["gen"] = m.Term, m.Gen
	w.obeys(m, now, s)
	return true
}

// obeys goes by pairs of an order's kind and a mode; all others do nothing.
func (w words) obeys(m api.Msg, now int, s *store.Store) {
	its := w["job"] == m.Job && w["inc"] == m.Inc
	switch [2]int{m.Kind, w["mode"]} {
	case [2]int{1, 0}, [2]int{1, 1}, [2]int{1, 2}, [2]int{1, 3}:
		w.letsGo()
	case [2]int{2, 0}:
		if w["version"] == m.Version && m.Until > now {
			w["mode"], w["job"], w["inc"], w["lease"] = 1, m.Job, m.Inc, m.Until
		}
	case [2]int{2, 1}, [2]int{2, 2}, [2]int{3, 2}:
		if its && m.Until > w["lease"] {
			w["lease"] = m.Until
		}
	case [2]int{3, 1}:
		if its {
			w["mode"], w["worked"], w["lease"] = 2, m.Work, m.Until
		}
	case [2]int{4, 2}:
		if !its || now >= w["lease"] {
			return
		}
		if m.Mode != 1 || s.Stage(m.Term, w["job"], w["inc"], dataOf(w["worked"])) == 0 {
			w["mode"] = 3
		}
	case [2]int{5, 0}:
		if m.Version > 0 && m.Version < 10 {
			w["mode"], w["to"] = 4, m.Version
		}
	}
}

func (w words) acts(now int) {
	if w["up"] == 0 {
		return
	}
	over := now >= w["lease"]
	switch w["mode"] {
	case 1, 3:
		if over {
			w.letsGo()
		}
	case 2:
		w["worked"]++
		if w["worked"] > 1000 {
			w["worked"] = 1000
		}
		if over {
			w.letsGo()
		}
	case 4:
		w["version"] = w["to"]
		w["to"] = 0
		w.letsGo()
	}
}

func (w words) fails() {
	w["up"], w["to"] = 0, 0
	w.letsGo()
}

func (w words) comesBack() { w["up"] = 1 }

func (w words) report(node int) api.Msg {
	return api.Msg{Node: node, Kind: 6, Term: w["term"], Gen: w["gen"], Job: w["job"], Inc: w["inc"], Version: w["version"], Mode: w["mode"], Work: w["worked"]}
}

func (w words) fenced(now int) bool {
	return w["up"] == 1 && w["mode"] == 2 && now >= w["lease"]
}

// dataOf is a checkpoint's data, as layer 1's words say, by remainders.
func dataOf(worked int) []byte {
	var b []byte
	for ; worked >= 128; worked /= 128 {
		b = append(b, byte(worked%128+128))
	}
	b = append(b, byte(worked))
	return append([]byte{byte(len(b))}, b...)
}

// Agents in each of the modes, up; all their numbers differ.
func idle() api.Agent { return api.Agent{Up: true, Term: 7, Gen: 40, Version: 3} }

func holding() api.Agent {
	return api.Agent{Up: true, Term: 7, Gen: 40, Mode: api.Holding, Job: 5, Inc: 2, Version: 3, Lease: 100}
}

func working() api.Agent {
	return api.Agent{Up: true, Term: 7, Gen: 40, Mode: api.Working, Job: 5, Inc: 2, Version: 3, Lease: 100, Worked: 60}
}

func kept() api.Agent {
	return api.Agent{Up: true, Term: 7, Gen: 40, Mode: api.Kept, Job: 5, Inc: 2, Version: 3, Lease: 100, Worked: 60}
}

func turning() api.Agent {
	return api.Agent{Up: true, Term: 7, Gen: 40, Mode: api.Turning, Version: 3, To: 4}
}

func each() []api.Agent { return []api.Agent{idle(), holding(), working(), kept(), turning()} }

func down(a api.Agent) api.Agent {
	a.Up = false
	return a
}

// order is one of a kind that each of these agents takes: of their job, their version, above their lease.
func order(kind int) api.Msg {
	return api.Msg{Node: 1, Kind: kind, Term: 7, Gen: 41, Job: 5, Inc: 2, Version: 3, Epoch: 1, Until: 150, Mode: 1, Work: 33}
}

// took is an agent, but of an order's Term and Gen.
func took(a api.Agent, m api.Msg) api.Agent {
	a.Term, a.Gen = m.Term, m.Gen
	return a
}

// wantTaken asks for the agent behind an order, and its report, number by number.
func wantTaken(t *testing.T, a api.Agent, m api.Msg, now int, s *store.Store, want api.Agent) {
	t.Helper()
	got, told, ok := agent.Take(a, 2, m, now, s)
	if !ok || got != want {
		t.Errorf("Take(%+v, %+v, at %d):\n%+v %v, not\n%+v", a, m, now, got, ok, want)
	}
	report := api.Msg{Node: 2, Kind: 6, Term: m.Term, Gen: m.Gen, Job: want.Job, Inc: want.Inc, Version: want.Version, Mode: want.Mode, Work: want.Worked}
	if told != report {
		t.Errorf("Take(%+v, %+v, at %d): told\n%+v, not\n%+v", a, m, now, told, report)
	}
}

// wantRefused asks for the agent as it is, a zero message, false, and a store to which nothing was done.
func wantRefused(t *testing.T, a api.Agent, m api.Msg, now int) {
	t.Helper()
	s := store.New(50)
	got, told, ok := agent.Take(a, 2, m, now, s)
	if ok || got != a || told != (api.Msg{}) {
		t.Errorf("Take(%+v, %+v, at %d):\n%+v %+v %v, though it isn't taken", a, m, now, got, told, ok)
	}
	wantUsed(t, s, 0, 0)
}

func wantUsed(t *testing.T, s *store.Store, used, writes int) {
	t.Helper()
	if s.Used() != used || s.Writes() != writes {
		t.Errorf("the store has %d bytes of %d writes, not %d of %d", s.Used(), s.Writes(), used, writes)
	}
}

func wantData(t *testing.T, s *store.Store, job, epoch int, data string) {
	t.Helper()
	got, ok := s.Get(job, epoch)
	if !ok || string(got) != data {
		t.Errorf("job %d epoch %d: % x %v, not % x", job, epoch, got, ok, data)
	}
}

// The chapter's own example.
func TestExample(t *testing.T) {
	s := store.New(50)
	a, told, ok := agent.Take(agent.New(), 0, api.Msg{Kind: api.Take, Job: 1, Inc: 1, Version: 1, Until: 9}, 3, s)
	if !ok || a != (api.Agent{Up: true, Mode: api.Holding, Job: 1, Inc: 1, Version: 1, Lease: 9}) {
		t.Error(a, ok)
	}
	if told != (api.Msg{Kind: api.Report, Job: 1, Inc: 1, Version: 1, Mode: api.Holding}) {
		t.Error(told)
	}
	a, told, ok = agent.Take(a, 0, api.Msg{Kind: api.Work, Job: 1, Inc: 1, Until: 9}, 3, s)
	if !ok || a.Mode != api.Working || told.Mode != api.Working {
		t.Error(a, told, ok)
	}
	if a = agent.Act(a, 9); a != (api.Agent{Up: true, Mode: api.Idle, Version: 1}) {
		t.Error(a)
	}
}

// P13.1: an agent at first.
func TestNew(t *testing.T) {
	for range 3 {
		a := agent.New()
		if a != (api.Agent{Up: true, Term: 0, Gen: 0, Mode: 0, Job: 0, Inc: 0, Version: 1, Lease: 0, Worked: 0, To: 0}) {
			t.Errorf("%+v", a)
		}
		a.Version, a.Up = 5, false // of its owner alone
	}
	wantTaken(t, agent.New(), api.Msg{Kind: api.Rest}, 0, nil, agent.New()) // the least order that there is
}

// P13.1: each kind of order to an agent in each mode.
func TestOrders(t *testing.T) {
	for _, x := range []struct {
		kind int
		want [5]api.Agent // of one that was idle, holding, working, kept, turning
	}{
		{api.Rest, [5]api.Agent{
			{Up: true, Term: 7, Gen: 41, Version: 3},
			{Up: true, Term: 7, Gen: 41, Version: 3},
			{Up: true, Term: 7, Gen: 41, Version: 3},
			{Up: true, Term: 7, Gen: 41, Version: 3},
			{Up: true, Term: 7, Gen: 41, Version: 3, Mode: 4, To: 4},
		}},
		{api.Take, [5]api.Agent{
			{Up: true, Term: 7, Gen: 41, Version: 3, Mode: 1, Job: 5, Inc: 2, Lease: 150},
			{Up: true, Term: 7, Gen: 41, Version: 3, Mode: 1, Job: 5, Inc: 2, Lease: 150},
			{Up: true, Term: 7, Gen: 41, Version: 3, Mode: 2, Job: 5, Inc: 2, Lease: 150, Worked: 60},
			{Up: true, Term: 7, Gen: 41, Version: 3, Mode: 3, Job: 5, Inc: 2, Lease: 100, Worked: 60},
			{Up: true, Term: 7, Gen: 41, Version: 3, Mode: 4, To: 4},
		}},
		{api.Work, [5]api.Agent{
			{Up: true, Term: 7, Gen: 41, Version: 3},
			{Up: true, Term: 7, Gen: 41, Version: 3, Mode: 2, Job: 5, Inc: 2, Lease: 150, Worked: 33},
			{Up: true, Term: 7, Gen: 41, Version: 3, Mode: 2, Job: 5, Inc: 2, Lease: 150, Worked: 60},
			{Up: true, Term: 7, Gen: 41, Version: 3, Mode: 3, Job: 5, Inc: 2, Lease: 100, Worked: 60},
			{Up: true, Term: 7, Gen: 41, Version: 3, Mode: 4, To: 4},
		}},
		{api.Save, [5]api.Agent{
			{Up: true, Term: 7, Gen: 41, Version: 3},
			{Up: true, Term: 7, Gen: 41, Version: 3, Mode: 1, Job: 5, Inc: 2, Lease: 100},
			{Up: true, Term: 7, Gen: 41, Version: 3, Mode: 3, Job: 5, Inc: 2, Lease: 100, Worked: 60},
			{Up: true, Term: 7, Gen: 41, Version: 3, Mode: 3, Job: 5, Inc: 2, Lease: 100, Worked: 60},
			{Up: true, Term: 7, Gen: 41, Version: 3, Mode: 4, To: 4},
		}},
		{api.Turn, [5]api.Agent{
			{Up: true, Term: 7, Gen: 41, Version: 3, Mode: 4, To: 3},
			{Up: true, Term: 7, Gen: 41, Version: 3, Mode: 1, Job: 5, Inc: 2, Lease: 100},
			{Up: true, Term: 7, Gen: 41, Version: 3, Mode: 2, Job: 5, Inc: 2, Lease: 100, Worked: 60},
			{Up: true, Term: 7, Gen: 41, Version: 3, Mode: 3, Job: 5, Inc: 2, Lease: 100, Worked: 60},
			{Up: true, Term: 7, Gen: 41, Version: 3, Mode: 4, To: 4},
		}},
	} {
		for i, a := range each() {
			s := store.New(50)
			wantTaken(t, a, order(x.kind), 99, s, x.want[i])
			if x.kind == api.Save && a.Mode == api.Working {
				wantData(t, s, 5, 2, "\x01\x3c")
				wantUsed(t, s, 2, 1)
			} else {
				wantUsed(t, s, 0, 0)
			}
			wantRefused(t, down(a), order(x.kind), 99)
		}
	}
}

// P13.1: the report is of the node that is told, whomever the order is to.
func TestReportOfNode(t *testing.T) {
	for kind := api.Rest; kind <= api.Turn; kind++ {
		for _, node := range []int{0, 1, 2, 3, 4, 5, 6, -1, 1000001, math.MaxInt, math.MinInt} {
			b, told, ok := agent.Take(working(), node, order(kind), 99, store.New(50))
			want := api.Msg{Node: node, Kind: 6, Term: 7, Gen: 41, Job: b.Job, Inc: b.Inc, Version: 3, Mode: b.Mode, Work: b.Worked}
			if !ok || told != want {
				t.Errorf("kind %d node %d: %+v, not %+v", kind, node, told, want)
			}
		}
	}
}

// P13.1: messages that are no orders aren't taken, be they of a greater term or not.
func TestNoOrders(t *testing.T) {
	for _, kind := range []int{0, api.Report, 7, 8, -1, -5, 257, 1<<32 + 1, math.MaxInt, math.MinInt} {
		for _, a := range each() {
			for _, term := range []int{6, 7, 8, math.MaxInt} {
				m := order(kind)
				m.Term = term
				wantRefused(t, a, m, 99)
				wantRefused(t, down(a), m, 99)
			}
		}
	}
	wantRefused(t, agent.New(), api.Msg{}, 0)
	wantRefused(t, agent.New(), agent.Tell(agent.New(), 2), 0)
}

// P13.1: an order's Term and Gen, each one below, at, and one above the agent's.
func TestElder(t *testing.T) {
	for _, x := range []struct {
		term, gen int
		ok        bool
	}{
		{6, 39, false}, {6, 40, false}, {6, 41, false}, {6, 1000, false}, {0, 40, false}, {0, 1000000, false}, {-1, 41, false}, {math.MinInt, 41, false},
		{7, 39, false}, {7, 40, true}, {7, 41, true}, {7, 0, false}, {7, 1, false}, {7, 1000000, true}, {7, -1, false}, {7, math.MinInt, false}, {7, math.MaxInt, true},
		{8, 39, true}, {8, 40, true}, {8, 41, true}, {8, 0, true}, {8, 1, true}, {1000000, 0, true}, {math.MaxInt, 0, true},
	} {
		for kind := api.Rest; kind <= api.Turn; kind++ {
			for _, a := range each() {
				m := order(kind)
				m.Term, m.Gen = x.term, x.gen
				wantRefused(t, down(a), m, 99)
				if !x.ok {
					wantRefused(t, a, m, 99)
					continue
				}
				w := wordsOf(a)
				w.obeys(m, 99, store.New(50))
				wantTaken(t, a, m, 99, store.New(50), took(w.agent(), m))
			}
		}
	}
}

// P13.1: once an order is taken, it may be taken again, and elder ones no more, though nothing else came of it.
func TestElderBehindAnother(t *testing.T) {
	a := agent.New()
	for _, x := range []struct {
		term, gen int
		ok        bool
	}{{0, 0, true}, {0, 2, true}, {0, 1, false}, {0, 2, true}, {1, 1, true}, {0, 3, false}, {1, 0, false}, {1, 1, true}, {3, 0, true}, {2, 9, false}, {3, 0, true}, {3, 1, true}, {3, 0, false}} {
		m := api.Msg{Kind: api.Save, Term: x.term, Gen: x.gen}
		b, told, ok := agent.Take(a, 4, m, 0, nil)
		if ok != x.ok || !ok && b != a || ok && (b != took(agent.New(), m) || told != agent.Tell(b, 4)) {
			t.Fatalf("%d %d: %+v %+v %v", x.term, x.gen, b, told, ok)
		}
		a = b
	}
}

// P13.1: to whom an order is doesn't count, nor do numbers that its kind doesn't go by; the report is the agent's own.
func TestNumbersThatDontCount(t *testing.T) {
	for kind := api.Rest; kind <= api.Turn; kind++ {
		for _, a := range each() {
			plain := order(kind)
			want, _, _ := agent.Take(a, 2, plain, 99, store.New(50))
			for _, n := range []int{-1, 0, 1, 2, 9, 1000001, math.MaxInt, math.MinInt} {
				m := plain
				m.Node, m.Epoch = n, n
				if kind != api.Take && kind != api.Turn {
					m.Version = n
				}
				if kind != api.Work {
					m.Work = n
				}
				if kind != api.Save {
					m.Mode = n
				}
				if kind != api.Take && kind != api.Work {
					m.Until = n
				}
				if kind == api.Rest || kind == api.Turn {
					m.Job, m.Inc = n, n
				}
				wantTaken(t, a, m, 99, store.New(50), want)
			}
		}
	}
}

// P13.1: Take to one that is idle: its version, and the time about the order's Until.
func TestTakeIdle(t *testing.T) {
	for _, x := range []struct {
		version, now, until int
		ok                  bool
	}{
		{3, 0, 150, true}, {3, 148, 150, true}, {3, 149, 150, true}, {3, 150, 150, false}, {3, 151, 150, false}, {3, 1000000, 150, false},
		{3, 0, 1, true}, {3, 0, 0, false}, {3, 1, 0, false}, {3, 0, -1, false}, {3, 999999, 1000000, true}, {3, 1000000, 1000000, false}, {3, 0, math.MaxInt, true}, {3, 0, math.MinInt, false},
		{2, 0, 150, false}, {4, 0, 150, false}, {0, 0, 150, false}, {-3, 0, 150, false}, {1, 0, 150, false}, {9, 149, 150, false}, {3 + 1<<32, 0, 150, false},
	} {
		m := order(api.Take)
		m.Version, m.Until = x.version, x.until
		want := took(idle(), m)
		if x.ok {
			want.Mode, want.Job, want.Inc, want.Lease = 1, 5, 2, x.until
		}
		wantTaken(t, idle(), m, x.now, nil, want)
	}
	for version := 1; version <= 9; version++ {
		for _, other := range []int{1, 2, 5, 8, 9} {
			a := api.Agent{Up: true, Version: version}
			want := a
			if version == other {
				want = api.Agent{Up: true, Mode: 1, Job: 24, Inc: 1000000, Version: version, Lease: 1}
			}
			wantTaken(t, a, api.Msg{Kind: api.Take, Job: 24, Inc: 1000000, Version: other, Until: 1}, 0, nil, want)
		}
	}
}

// P13.1: Take and Work to those that have that job: Until about the lease that there is; neither the time nor the version counts.
func TestLease(t *testing.T) {
	for _, until := range []int{-1, 0, 1, 98, 99, 100, 101, 102, 150, 1000000, math.MaxInt, math.MinInt} {
		for _, now := range []int{0, 99, 100, 101, 1000000} {
			for _, version := range []int{3, 2, 0} {
				greater := 100
				if until > 100 {
					greater = until
				}
				take, work := order(api.Take), order(api.Work)
				take.Until, take.Version, work.Until, work.Version = until, version, until, version
				held, works, begins := took(holding(), take), took(working(), take), took(working(), work)
				held.Lease, works.Lease = greater, greater
				begins.Lease, begins.Worked = until, 33 // as it is told, be it greater or not
				wantTaken(t, holding(), take, now, nil, held)
				wantTaken(t, working(), take, now, nil, works)
				wantTaken(t, working(), work, now, nil, works)
				wantTaken(t, holding(), work, now, nil, begins)
				wantTaken(t, kept(), take, now, nil, took(kept(), take))
				wantTaken(t, kept(), work, now, nil, took(kept(), work))
			}
		}
	}
}

// P13.1: Work to one that holds the job: Worked is what the order tells.
func TestWorkTold(t *testing.T) {
	for _, work := range []int{0, 1, 59, 60, 61, 999, 1000} {
		m := order(api.Work)
		m.Work = work
		want := took(working(), m)
		want.Lease, want.Worked = 150, work
		wantTaken(t, holding(), m, 50, nil, want)
		want.Worked = 60
		wantTaken(t, working(), m, 50, nil, want)
	}
}

// P13.1: orders of that job with another Inc, and of another job with that Inc, and of what are both others.
func TestOtherJobs(t *testing.T) {
	for _, x := range []struct{ job, inc int }{{5, 1}, {5, 3}, {5, 0}, {4, 2}, {6, 2}, {0, 2}, {2, 5}, {0, 0}, {4, 1}, {6, 3}, {5, -2}, {-5, 2}, {5, 2 + 1<<32}, {5 + 1<<32, 2}, {4, 3}, {3, 4}} {
		for _, a := range []api.Agent{holding(), working(), kept(), turning()} {
			for _, kind := range []int{api.Take, api.Work, api.Save} {
				for _, mode := range []int{0, 1} {
					m := order(kind)
					m.Job, m.Inc, m.Mode = x.job, x.inc, mode
					s := store.New(50)
					wantTaken(t, a, m, 50, s, took(a, m))
					wantUsed(t, s, 0, 0)
				}
			}
		}
	}
}

// P13.1: Turn to each version, and to what is none.
func TestTurn(t *testing.T) {
	for _, version := range []int{math.MinInt, -9, -1, 0, 1, 2, 3, 4, 5, 6, 7, 8, 9, 10, 11, 19, 1 << 32, 1<<32 + 1, math.MaxInt} {
		m := order(api.Turn)
		m.Version = version
		want := took(idle(), m)
		if version >= 1 && version <= 9 {
			want.Mode, want.To = 4, version
		}
		wantTaken(t, idle(), m, 50, nil, want)
		for _, a := range each()[1:] {
			wantTaken(t, a, m, 50, nil, took(a, m))
		}
	}
}

// P13.1: Save: its Mode, the time about the lease, and stores of each sort.
func TestSave(t *testing.T) {
	for _, x := range []struct {
		name string
		make func() *store.Store
		ok   bool // is a checkpoint of two bytes staged?
	}{
		{"room", func() *store.Store { return store.New(50) }, true},
		{"just the room", func() *store.Store { return store.New(2) }, true},
		{"a byte less", func() *store.Store { return store.New(1) }, false},
		{"no room", func() *store.Store { return store.New(0) }, false},
		{"room beside another job's", func() *store.Store { return withOther(5) }, true},
		{"no room beside another job's", func() *store.Store { return withOther(4) }, false},
		{"fenced below", func() *store.Store { return fencedAt(6) }, true},
		{"fenced at the agent's term", func() *store.Store { return fencedAt(7) }, true},
		{"fenced at the order's term", func() *store.Store { return fencedAt(8) }, true},
		{"fenced above", func() *store.Store { return fencedAt(9) }, false},
		{"nil", func() *store.Store { return nil }, false},
	} {
		for _, mode := range []int{0, 1, 2, 3, -1, 257, math.MaxInt, math.MinInt} {
			for _, now := range []int{0, 50, 98, 99, 100, 101, 1000000} {
				s := x.make()
				term, used, writes := s.Term(), s.Used(), s.Writes()
				m := order(api.Save)
				m.Term, m.Gen, m.Mode = 8, 3, mode
				want := took(working(), m)
				if now < 100 && (mode != 1 || x.ok) {
					want.Mode = 3
				}
				wantTaken(t, working(), m, now, s, want)
				if now < 100 && mode == 1 && x.ok {
					wantData(t, s, 5, 2, "\x01\x3c")
					used, writes = used+2, writes+1
				}
				wantUsed(t, s, used, writes)
				if s.Counts(5) != 0 || s.Term() != term {
					t.Errorf("counts %d, term %d", s.Counts(5), s.Term())
				}
				if t.Failed() {
					t.Fatal(x.name, mode, now)
				}
			}
		}
	}
}

// withOther is a store that has three bytes of another job.
func withOther(room int) *store.Store {
	s := store.New(room)
	s.Stage(0, 9, 2, []byte("abc"))
	return s
}

func fencedAt(term int) *store.Store {
	s := store.New(50)
	s.Fence(term)
	return s
}

// P13.1: what is staged, byte for byte: layer 1's text of the bytes of the number Worked, of the agent's job and Inc.
func TestCheckpoint(t *testing.T) {
	for _, x := range []struct {
		worked int
		data   string
	}{
		{0, "\x01\x00"}, {1, "\x01\x01"}, {60, "\x01\x3c"}, {127, "\x01\x7f"}, {128, "\x02\x80\x01"}, {300, "\x02\xac\x02"}, {999, "\x02\xe7\x07"}, {1000, "\x02\xe8\x07"}, {16383, "\x02\xff\x7f"}, {16384, "\x03\x80\x80\x01"},
	} {
		for _, j := range []struct{ job, inc int }{{5, 2}, {1, 1}, {24, 1}, {2, 1000000}, {24, 1000000}} {
			a, m := working(), order(api.Save)
			a.Worked, a.Job, a.Inc = x.worked, j.job, j.inc
			m.Job, m.Inc, m.Work, m.Epoch = j.job, j.inc, 4321, 17 // the agent's own count, not these
			want := took(a, m)
			want.Mode = 3
			s := store.New(50)
			wantTaken(t, a, m, 99, s, want)
			wantData(t, s, j.job, j.inc, x.data)
			wantUsed(t, s, len(x.data), 1)
		}
	}
}

// P13.1: jobs and epochs of which the store has none: it stays Working; and is Kept, if it doesn't write.
func TestCheckpointOfNone(t *testing.T) {
	for _, j := range []struct{ job, inc int }{{0, 1}, {25, 1}, {26, 1}, {1, 0}, {24, 1000001}, {0, 0}} {
		for _, mode := range []int{0, 1, 2} {
			a, m := working(), order(api.Save)
			a.Job, a.Inc, m.Job, m.Inc, m.Mode = j.job, j.inc, j.job, j.inc, mode
			want := took(a, m)
			if mode != 1 {
				want.Mode = 3
			}
			s := store.New(50)
			wantTaken(t, a, m, 99, s, want)
			wantUsed(t, s, 0, 0)
		}
	}
}

// P13.1: a store that has checkpoints of that job: elder epochs, the same one, and greater ones, staged or counting.
func TestCheckpointBehindOthers(t *testing.T) {
	for _, x := range []struct {
		name    string
		epoch   int
		counts  bool
		ok      bool
		data    string // of epoch 2, behind it
		writes  int
		tooLong bool
	}{
		{"elder, staged", 1, false, true, "\x01\x3c", 2, false},
		{"elder, counts", 1, true, true, "\x01\x3c", 2, false},
		{"staged already", 2, false, true, "had", 1, false},
		{"counts already", 2, true, false, "had", 1, false},
		{"greater, staged", 3, false, false, "", 1, false},
		{"greater, counts", 3, true, false, "", 1, false},
		{"elder, no room beside it", 1, true, false, "", 1, true},
		{"elder, room in its place", 1, false, true, "\x01\x3c", 2, true},
	} {
		s := store.New(50)
		if x.tooLong {
			s = store.New(4)
		}
		s.Stage(0, 5, x.epoch, []byte("had"))
		if x.counts {
			s.Commit(5, x.epoch)
		}
		m := order(api.Save)
		want := took(working(), m)
		if x.ok {
			want.Mode = 3
		}
		wantTaken(t, working(), m, 99, s, want)
		if got, ok := s.Get(5, 2); ok != (x.data != "") || string(got) != x.data {
			t.Errorf("%s: % x", x.name, got)
		}
		if x.counts {
			wantData(t, s, 5, x.epoch, "had")
		}
		if s.Writes() != x.writes {
			t.Errorf("%s: %d writes", x.name, s.Writes())
		}
		if t.Failed() {
			t.Fatal(x.name)
		}
	}
}

// P13.1: an order to save that comes twice, and one that another node's agent has of the same job.
func TestSaveTwice(t *testing.T) {
	s := store.New(50)
	m := order(api.Save)
	a := took(working(), m)
	a.Mode = 3
	wantTaken(t, working(), m, 99, s, a)
	wantTaken(t, a, m, 99, s, a)
	m.Gen++
	wantTaken(t, a, m, 99, s, took(a, m))
	other := working()
	other.Worked = 61
	want := took(other, m)
	want.Mode = 3
	wantTaken(t, other, m, 99, s, want)
	wantData(t, s, 5, 2, "\x01\x3c") // it was staged already
	wantUsed(t, s, 2, 1)
}

// P13.1: an order to save that isn't taken stages nothing.
func TestSaveRefused(t *testing.T) {
	for _, x := range []struct {
		a         api.Agent
		term, gen int
	}{{working(), 7, 39}, {working(), 6, 41}, {down(working()), 7, 41}, {down(working()), 8, 0}} {
		m := order(api.Save)
		m.Term, m.Gen = x.term, x.gen
		wantRefused(t, x.a, m, 50)
	}
}

// P13.2: an agent in each mode acts, the time one below, at, and one above its lease; what isn't up stays as it is.
func TestAct(t *testing.T) {
	rests := idle()
	works := working()
	works.Worked = 61
	turned := idle()
	turned.Version = 4
	for _, x := range []struct{ a, below, over api.Agent }{
		{idle(), idle(), idle()}, {holding(), holding(), rests}, {working(), works, rests}, {kept(), kept(), rests}, {turning(), turned, turned}, {agent.New(), agent.New(), agent.New()},
	} {
		for _, now := range []int{0, 1, 50, 98, 99, 100, 101, 102, 1000000, math.MaxInt} {
			want := x.below
			if now >= 100 {
				want = x.over
			}
			if got := agent.Act(x.a, now); got != want {
				t.Errorf("Act(%+v, %d):\n%+v, not\n%+v", x.a, now, got, want)
			}
			if got := agent.Act(down(x.a), now); got != down(x.a) {
				t.Errorf("Act(%+v, %d): %+v", down(x.a), now, got)
			}
		}
	}
	for to := 1; to <= 9; to++ {
		a := turning()
		a.To = to
		for _, now := range []int{0, 1000000} {
			if got := agent.Act(a, now); got != (api.Agent{Up: true, Term: 7, Gen: 40, Version: to}) {
				t.Errorf("turned to %d: %+v", to, got)
			}
		}
	}
}

// P13.2: Worked is one more, at most 1,000.
func TestWorked(t *testing.T) {
	for _, x := range []struct{ worked, want int }{{0, 1}, {1, 2}, {127, 128}, {998, 999}, {999, 1000}, {1000, 1000}, {1001, 1000}, {math.MaxInt, 1000}} {
		a := working()
		a.Worked = x.worked
		want := a
		want.Worked = x.want
		if got := agent.Act(a, 99); got != want {
			t.Errorf("%d: %+v", x.worked, got)
		}
		if got := agent.Act(a, 100); got != idle() {
			t.Errorf("%d, without a lease: %+v", x.worked, got)
		}
		for _, other := range []api.Agent{idle(), holding(), kept(), turning()} {
			other.Worked = x.worked
			if got := agent.Act(other, 99); got.Worked != x.worked && other.Mode != api.Turning || other.Mode == api.Turning && got.Worked != 0 {
				t.Errorf("%d, mode %d: %+v", x.worked, other.Mode, got)
			}
		}
	}
	a := working()
	a.Worked = 0
	for i := 1; i <= 1005; i++ {
		if a = agent.Act(a, 99); a.Worked != min(i, 1000) {
			t.Fatalf("act %d: %+v", i, a)
		}
	}
}

// P13.2: an agent in each mode fails, and comes back: its version, Term and Gen stay.
func TestFailAndBack(t *testing.T) {
	failed := api.Agent{Term: 7, Gen: 40, Version: 3}
	for _, a := range each() {
		for range 2 {
			if got := agent.Fail(a); got != failed {
				t.Errorf("Fail(%+v): %+v", a, got)
			}
			a.Up = false
		}
		want := a
		want.Up = true
		for range 2 { // of one that is up, too
			if a = agent.Back(a); a != want {
				t.Errorf("Back: %+v, not %+v", a, want)
			}
		}
	}
	if got := agent.Back(failed); got != idle() {
		t.Errorf("%+v", got)
	}
	if got := agent.Fail(agent.New()); got != (api.Agent{Version: 1}) {
		t.Errorf("%+v", got)
	}
}

// P13.2: a report: each number of the agent that it has, and those that it hasn't; of one that isn't up, too.
func TestTell(t *testing.T) {
	if got := agent.Tell(api.Agent{}, 0); got != (api.Msg{Kind: 6}) {
		t.Errorf("of a zero agent: %+v", got)
	}
	if got := agent.Tell(agent.New(), 5); got != (api.Msg{Node: 5, Kind: 6, Version: 1}) {
		t.Errorf("of one at first: %+v", got)
	}
	if got := agent.Tell(kept(), 4); got != (api.Msg{Node: 4, Kind: 6, Term: 7, Gen: 40, Job: 5, Inc: 2, Version: 3, Mode: 3, Work: 60}) {
		t.Errorf("of one that kept: %+v", got)
	}
	for _, node := range []int{0, 1, 2, 3, 4, 5, 6, -1, 1000001, math.MaxInt, math.MinInt} {
		for i, a := range append(each(), agent.New()) {
			want := api.Msg{Node: node, Kind: 6, Term: a.Term, Gen: a.Gen, Job: a.Job, Inc: a.Inc, Version: a.Version, Epoch: 0, Until: 0, Mode: a.Mode, Work: a.Worked}
			if i < 5 && want.Mode != i {
				t.Fatal(i)
			}
			if agent.Tell(a, node) != want || agent.Tell(down(a), node) != want {
				t.Errorf("Tell(%+v, %d): %+v", a, node, agent.Tell(a, node))
			}
		}
	}
	for i, x := range []struct {
		a api.Agent
		m api.Msg
	}{
		{api.Agent{Term: 11}, api.Msg{Term: 11}}, {api.Agent{Gen: 12}, api.Msg{Gen: 12}}, {api.Agent{Mode: 2}, api.Msg{Mode: 2}}, {api.Agent{Job: 13}, api.Msg{Job: 13}}, {api.Agent{Inc: 14}, api.Msg{Inc: 14}}, {api.Agent{Version: 9}, api.Msg{Version: 9}}, {api.Agent{Worked: 16}, api.Msg{Work: 16}},
		{api.Agent{Lease: 17}, api.Msg{}}, {api.Agent{To: 8}, api.Msg{}}, {api.Agent{Up: true}, api.Msg{}},
	} {
		x.m.Kind, x.m.Node = 6, 3
		if got := agent.Tell(x.a, 3); got != x.m {
			t.Errorf("%d: %+v, not %+v", i, got, x.m)
		}
	}
}

// P13.2: who works without a lease: up, Working, and the time at its lease or behind.
func TestFenced(t *testing.T) {
	for _, a := range append(each(), agent.New()) {
		for _, now := range []int{0, 1, 50, 98, 99, 100, 101, 1000000, math.MaxInt} {
			if got, want := agent.Fenced(a, now), a.Mode == api.Working && now >= 100; got != want {
				t.Errorf("Fenced(%+v, %d): %v", a, now, got)
			}
			if agent.Fenced(down(a), now) {
				t.Errorf("Fenced(%+v, %d), though it isn't up", down(a), now)
			}
		}
	}
	a := working()
	a.Lease = 0
	if !agent.Fenced(a, 0) || agent.Fenced(agent.Act(a, 0), 0) {
		t.Error("of a lease that there never was")
	}
}

// both is an agent, and the words of it, each with a store of its own.
type both struct {
	a    api.Agent
	w    words
	s, r *store.Store
}

func bothOf(a api.Agent, room, term int) *both {
	x := &both{a: a, w: wordsOf(a)}
	for _, s := range []**store.Store{&x.s, &x.r} {
		if room >= 0 { // else nil
			*s = store.New(room)
			(*s).Fence(term)
		}
	}
	return x
}

// step is one thing that is done to an agent.
type step struct {
	what byte // o: an order, a: it acts, f: it fails, b: it comes back, t: the store's term
	m    api.Msg
	now  int
}

// do does a step to both, and says whether they go on alike.
func (x *both) do(s step) bool {
	node := s.m.Node
	switch s.what {
	case 'o':
		ok := x.w.takes(s.m, s.now, x.r)
		want := api.Msg{}
		if ok {
			want = x.w.report(node)
		}
		got, told, took := agent.Take(x.a, node, s.m, s.now, x.s)
		x.a = got
		if took != ok || told != want {
			return false
		}
	case 'a':
		x.a = agent.Act(x.a, s.now)
		x.w.acts(s.now)
	case 'f':
		x.a = agent.Fail(x.a)
		x.w.fails()
	case 'b':
		x.a = agent.Back(x.a)
		x.w.comesBack()
	case 't':
		x.s.Fence(s.m.Term)
		x.r.Fence(s.m.Term)
	}
	return x.a == x.w.agent() && agent.Tell(x.a, node) == x.w.report(node) && agent.Fenced(x.a, s.now) == x.w.fenced(s.now) && x.storesAlike(s.m)
}

// storesAlike asks all of the stores that has to do with a message's job.
func (x *both) storesAlike(m api.Msg) bool {
	if x.s.Used() != x.r.Used() || x.s.Writes() != x.r.Writes() || x.s.Term() != x.r.Term() || x.s.Counts(m.Job) != x.r.Counts(m.Job) {
		return false
	}
	for _, job := range []int{m.Job, x.a.Job} {
		for _, epoch := range []int{m.Inc, x.a.Inc, m.Epoch, m.Inc - 1, m.Inc + 1} {
			got, ok := x.s.Get(job, epoch)
			want, had := x.r.Get(job, epoch)
			if ok != had || !bytes.Equal(got, want) {
				return false
			}
		}
	}
	return true
}

// product calls for each choice of one of each list.
func product(lists [][]int, call func(l []int)) {
	l := make([]int, len(lists))
	var from func(i int)
	from = func(i int) {
		if i == len(lists) {
			call(l)
			return
		}
		for _, n := range lists[i] {
			l[i] = n
			from(i + 1)
		}
	}
	from(0)
}

// P13.1, P13.2: an order of each kind to an agent in each mode, each number below, at and above what it is held against.
func TestEveryOrder(t *testing.T) {
	runs, kept := 0, 0
	about := []int{-1, 0, 1}
	for _, a := range append(each(), down(working()), down(idle()), agent.New()) {
		product([][]int{
			{0, 1, 2, 3, 4, 5, 6, 7}, about, about, // kind, Term, Gen
			{5, 6}, {2, 3}, {2, 3, 10}, // Job, Inc, Version
			about, {-50, 0, 50}, {0, 1, 2}, // time and Until about the lease, Mode
			{-1, 1, 50}, // the store's room
		}, func(l []int) {
			lease := max(a.Lease, 100)
			m := api.Msg{Node: 3, Kind: l[0], Term: a.Term + l[1], Gen: a.Gen + l[2], Job: l[3], Inc: l[4], Version: l[5], Until: lease + l[7], Mode: l[8], Work: 77}
			x := bothOf(a, l[9], a.Term)
			if !x.do(step{'o', m, lease + l[6]}) {
				t.Fatalf("%+v, %+v at %d, room %d:\n%+v, not\n%+v", a, m, lease+l[6], l[9], x.a, x.w.agent())
			}
			runs++
			if x.a.Mode == api.Kept && a.Mode == api.Working {
				kept++
			}
		})
	}
	if runs < 400000 || kept < 100 {
		t.Error(runs, kept)
	}
}

// shortSteps are steps of two jobs, of each kind, whose times, terms and leases lie about each other.
func shortSteps() []step {
	l := []step{{what: 'f'}, {what: 'b'}, {what: 'a', now: 3}, {what: 'a', now: 5}, {what: 't', m: api.Msg{Term: 1, Job: 1}}}
	for _, m := range []api.Msg{
		{Kind: api.Rest, Gen: 1},
		{Kind: api.Rest, Term: 1},
		{Kind: api.Take, Gen: 1, Job: 1, Inc: 1, Version: 1, Until: 4},
		{Kind: api.Take, Gen: 2, Job: 1, Inc: 2, Version: 1, Until: 5},
		{Kind: api.Take, Term: 1, Job: 2, Inc: 1, Version: 2, Until: 6},
		{Kind: api.Work, Gen: 1, Job: 1, Inc: 1, Until: 5, Work: 999},
		{Kind: api.Work, Gen: 2, Job: 1, Inc: 2, Until: 6},
		{Kind: api.Work, Gen: 2, Job: 1, Inc: 1, Until: 3, Work: 5},
		{Kind: api.Save, Gen: 2, Job: 1, Inc: 1, Mode: 1},
		{Kind: api.Save, Gen: 2, Job: 1, Inc: 2},
		{Kind: api.Save, Term: 1, Job: 1, Inc: 2, Mode: 1},
		{Kind: api.Turn, Gen: 1, Version: 2},
		{Kind: api.Turn, Term: 1, Version: 9},
		{Kind: api.Turn, Gen: 3, Version: 10},
		{Kind: api.Report, Gen: 9},
	} {
		m.Node = 1
		l = append(l, step{'o', m, 3})
	}
	return l
}

// P13.1, P13.2: each run of few steps, in each order, is what the words say.
func TestEveryRun(t *testing.T) {
	steps := shortSteps()
	const depth = 4
	runs := 1
	for range depth {
		runs *= len(steps)
	}
	met := map[int]int{}
	for run := range runs {
		x := bothOf(agent.New(), 4, 0)
		left := run
		for range depth {
			if s := steps[left%len(steps)]; !x.do(s) {
				t.Fatalf("run %d: %+v:\n%+v, not\n%+v", run, s, x.a, x.w.agent())
			}
			left /= len(steps)
		}
		met[x.a.Mode]++
	}
	for mode := api.Idle; mode <= api.Turning; mode++ {
		if met[mode] == 0 {
			t.Error("no run ends in the mode", mode)
		}
	}
}

// chance is a plain row of numbers, the same one each time.
type chance uint64

func (c *chance) below(n int) int {
	*c = *c*6364136223846793005 + 1442695040888963407
	return int(uint64(*c) >> 33 % uint64(n))
}

func (c *chance) of(l ...int) int { return l[c.below(len(l))] }

// anyStep is a step near what an agent has; the time is about now.
func (c *chance) anyStep(a api.Agent, now int) step {
	switch n := c.below(100); {
	case n < 2:
		return step{what: 'f', now: now}
	case n < 6 || !a.Up && n < 30:
		return step{what: 'b', now: now}
	case n < 7:
		return step{what: 't', m: api.Msg{Term: max(a.Term, 0) + c.of(0, 0, 1)}}
	case n < 40:
		return step{what: 'a', now: now}
	}
	next := []int{api.Take, api.Work, api.Save, api.Rest, api.Rest} // what leads on from a mode
	m := api.Msg{
		Node: c.below(6), Kind: c.of(1, 2, 3, 3, 4, 5, 0, 6, 7, next[a.Mode], next[a.Mode], next[a.Mode]), Term: a.Term + c.of(-1, 0, 0, 0, 0, 0, 0, 1), Gen: a.Gen + c.of(-1, 0, 0, 1, 1, 2),
		Job: a.Job, Inc: a.Inc, Version: c.of(a.Version, a.Version, a.Version, 1+c.below(9), 0, 10),
		Epoch: c.below(5), Until: c.of(now-1, now, now+1, now+9, now+30, now+50, a.Lease-1, a.Lease, a.Lease+1), Mode: c.of(0, 1, 1, 2), Work: c.of(0, 5, 130, 998, 999, 1000),
	}
	if a.Mode == api.Idle || c.below(5) == 0 {
		m.Job, m.Inc = c.of(a.Job, c.below(27)), c.of(a.Inc, a.Inc+1, c.below(9)) // none of a store's, too
	}
	m.Until, m.Gen = max(m.Until, 0), max(m.Gen, 0)
	return step{'o', m, now}
}

// longRun is many steps of an agent from its first state on; changed is asked of each.
func longRun(t *testing.T, seed, room, steps int, changed func(was, is api.Agent, s step)) {
	t.Helper()
	c := chance(seed)
	x := bothOf(agent.New(), room, 0)
	now := 0
	for k := range steps {
		now += c.of(0, 0, 0, 1, 1, 2, 9)
		was, s := x.a, c.anyStep(x.a, now)
		if !x.do(s) {
			t.Fatalf("seed %d room %d step %d: %+v %+v:\n%+v, not\n%+v", seed, room, k, was, s, x.a, x.w.agent())
		}
		changed(was, x.a, s)
		if t.Failed() {
			t.Fatalf("seed %d room %d step %d: %+v %+v: %+v", seed, room, k, was, s, x.a)
		}
	}
}

// P13.1, P13.2: long runs, with stores of all rooms, are what the words say.
func TestLongRuns(t *testing.T) {
	ways := map[[2]int]int{}
	for seed := range 40 {
		longRun(t, seed, []int{-1, 0, 1, 2, 3, 5, 10, 70, 5000}[seed%9], 3000, func(was, is api.Agent, s step) {
			ways[[2]int{was.Mode, is.Mode}]++
		})
	}
	for _, w := range [][2]int{{0, 0}, {0, 1}, {1, 1}, {1, 2}, {2, 2}, {2, 3}, {3, 3}, {0, 4}, {4, 4}, {1, 0}, {2, 0}, {3, 0}, {4, 0}} {
		if ways[w] < 50 {
			t.Error("the runs go from mode to mode", w, "times", ways[w])
		}
		delete(ways, w)
	}
	if len(ways) > 0 {
		t.Error("ways between modes that there aren't:", ways)
	}
}

// P13.3: its version turns while it is Turning alone, by Act, to that which it was told; it is Turning from Idle alone, by an order.
func TestVersionTurnsByActAlone(t *testing.T) {
	turned := 0
	for seed := range 40 {
		longRun(t, 100+seed, 50, 2000, func(was, is api.Agent, s step) {
			if is.Version != was.Version {
				turned++
				if s.what != 'a' || !was.Up || was.Mode != api.Turning || is.Version != was.To {
					t.Error("its version is another one")
				}
			}
			if is.Version < 1 || is.Version > 9 {
				t.Error("no version")
			}
			if is.Mode == api.Turning && was.Mode != api.Turning && (was.Mode != api.Idle || s.what != 'o' || s.m.Kind != api.Turn || is.To != s.m.Version) {
				t.Error("it is turning")
			}
			if was.Mode == api.Turning && is.Mode == api.Turning && is.To != was.To {
				t.Error("it turns to another one")
			}
			if is.Mode == api.Turning && (is.Job != 0 || is.Inc != 0 || !is.Up) || is.Mode != api.Turning && is.To != 0 {
				t.Error("it turns with a job, or not up, or to one though it doesn't")
			}
		})
	}
	if turned < 200 {
		t.Error("turned", turned, "times")
	}
}

// P13.3: it works, if it held that very job ahead, by an order of that job; it is Kept, if it worked on that.
func TestWorksOnWhatItHeld(t *testing.T) {
	began, saved := 0, 0
	for seed := range 40 {
		longRun(t, 200+seed, 50, 2000, func(was, is api.Agent, s step) {
			same := is.Job == was.Job && is.Inc == was.Inc
			asked := s.what == 'o' && s.m.Job == is.Job && s.m.Inc == is.Inc
			switch {
			case is.Mode == api.Idle || is.Mode == api.Turning:
				if is.Job != 0 || is.Inc != 0 || is.Lease != 0 || is.Worked != 0 {
					t.Error("it has what it let go")
				}
			case !is.Up:
				t.Error("it isn't up, and has a job")
			case is.Mode == was.Mode:
				if !same {
					t.Error("another job")
				}
			case is.Mode == api.Holding:
				if was.Mode != api.Idle || !asked || s.m.Kind != api.Take || s.m.Version != is.Version {
					t.Error("it holds")
				}
			case is.Mode == api.Working:
				began++
				if was.Mode != api.Holding || !same || !asked || s.m.Kind != api.Work {
					t.Error("it works")
				}
			case is.Mode == api.Kept:
				saved++
				if was.Mode != api.Working || !same || !asked || s.m.Kind != api.Save || s.now >= was.Lease {
					t.Error("it is kept")
				}
			}
		})
	}
	if began < 500 || saved < 100 {
		t.Error("it began", began, "times, and saved", saved)
	}
}

// P13.3: its Term and Gen never go back, and come from orders alone.
func TestTermNeverGoesBack(t *testing.T) {
	rose := 0
	for seed := range 40 {
		longRun(t, 300+seed, 50, 2000, func(was, is api.Agent, s step) {
			if is.Term < was.Term || is.Term == was.Term && is.Gen < was.Gen {
				t.Error("it went back")
			}
			if is.Term == was.Term && is.Gen == was.Gen {
				return
			}
			rose++
			if s.what != 'o' || !was.Up || is.Term != s.m.Term || is.Gen != s.m.Gen {
				t.Error("from nowhere")
			}
		})
	}
	if rose < 10000 {
		t.Error("it rose", rose, "times")
	}
}

// P13.3: without a lease it stops at its next act.
func TestStopsWithoutLease(t *testing.T) {
	fenced := 0
	for seed := range 40 {
		longRun(t, 400+seed, 50, 2000, func(was, is api.Agent, s step) {
			if !agent.Fenced(was, s.now) {
				return
			}
			fenced++
			if s.what == 'a' && is.Mode != api.Idle || s.what == 'o' && is.Mode == api.Kept {
				t.Error("it goes on")
			}
		})
	}
	if fenced < 500 {
		t.Error("fenced", fenced, "times")
	}
}

// Rule 1: every call ends, whatever it is given, and what isn't taken leaves all as it was.
func TestAnyArguments(t *testing.T) {
	odd := []int{math.MinInt, math.MinInt + 1, -1 << 53, -1000001, -1, 0, 1, 5, 6, 9, 10, 24, 25, 100, 1000, 1000000, 1000001, 1 << 32, 1 << 53, math.MaxInt - 1, math.MaxInt}
	c := chance(5)
	for range 60000 {
		n := func() int { return c.of(odd...) }
		a := api.Agent{Up: c.below(4) > 0, Term: n(), Gen: n(), Mode: c.of(0, 1, 2, 3, 4, n()), Job: n(), Inc: n(), Version: n(), Lease: n(), Worked: n(), To: n()}
		if c.below(2) == 0 {
			a = each()[c.below(5)]
		}
		m := api.Msg{Node: n(), Kind: c.of(1, 2, 3, 4, 5, n()), Term: n(), Gen: n(), Job: c.of(a.Job, n()), Inc: c.of(a.Inc, n()), Version: n(), Epoch: n(), Until: n(), Mode: n(), Work: n()}
		s := []*store.Store{nil, store.New(0), store.New(50)}[c.below(3)]
		b, told, ok := agent.Take(a, n(), m, n(), s)
		if !ok && (b != a || told != (api.Msg{}) || s.Writes() != 0) {
			t.Fatalf("%+v %+v: %+v %+v", a, m, b, told)
		}
		now := n()
		agent.Act(b, now)
		agent.Fail(b)
		agent.Back(b)
		agent.Tell(b, n())
		agent.Fenced(b, now)
	}
}

// Rule 4: arguments that are changed behind a call change no answer, and answers that are changed no argument, nor the store.
func TestChangedBehind(t *testing.T) {
	s := store.New(50)
	a, m := working(), order(api.Save)
	b, told, ok := agent.Take(a, 2, m, 99, s)
	if !ok || a != working() || m != order(api.Save) {
		t.Errorf("what was handed in was changed: %+v %+v", a, m)
	}
	behind, report := b, told
	a, m = api.Agent{}, api.Msg{}
	if b != behind || told != report {
		t.Errorf("an answer was changed: %+v %+v", b, told)
	}
	b.Worked, told.Work = 9, 9
	data, _ := s.Get(5, 2)
	clear(data)
	wantData(t, s, 5, 2, "\x01\x3c")
	s.End(5)
	if agent.Tell(behind, 2) != report || agent.Act(behind, 99) != behind {
		t.Errorf("%+v", behind)
	}
	for _, call := range []func(api.Agent) api.Agent{
		func(a api.Agent) api.Agent { return agent.Act(a, 99) }, func(a api.Agent) api.Agent { return agent.Act(a, 100) }, agent.Fail, agent.Back,
	} {
		for i, a := range each() {
			one := call(a)
			if a != each()[i] {
				t.Errorf("what was handed in was changed: %+v", a)
			}
			a.Worked, a.Mode = 1, 1
			if other := call(each()[i]); one != other {
				t.Errorf("%+v, then %+v", one, other)
			}
		}
	}
}

// Rule 6: what is answered hangs on the arguments alone, not on what was asked ahead.
func TestNothingIsKept(t *testing.T) {
	for range 3 {
		for kind := api.Rest; kind <= api.Turn; kind++ {
			for i, a := range each() {
				one, told, _ := agent.Take(a, i, order(kind), 99, store.New(50))
				agent.Take(working(), 5, api.Msg{Kind: api.Turn, Term: 900, Gen: 900}, 5, nil)
				agent.Fail(a)
				again, toldAgain, _ := agent.Take(a, i, order(kind), 99, store.New(50))
				if one != again || told != toldAgain {
					t.Errorf("%+v %+v, then %+v %+v", one, told, again, toldAgain)
				}
			}
		}
	}
}
