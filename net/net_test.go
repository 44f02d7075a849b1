package net_test

import (
	"bytes"
	"hash/crc32"
	"math"
	"slices"
	"testing"

	"dunnage/api"
	"dunnage/net"
)

const (
	numbers = 11 // of a message
	full    = 40 // messages of a net
)

// listOf is a message's numbers, in the chapter's order.
func listOf(m api.Msg) []int {
	return []int{m.Node, m.Kind, m.Term, m.Gen, m.Job, m.Inc, m.Version, m.Epoch, m.Until, m.Mode, m.Work}
}

// msgOf is the message of a list of numbers.
func msgOf(l []int) api.Msg {
	return api.Msg{Node: l[0], Kind: l[1], Term: l[2], Gen: l[3], Job: l[4], Inc: l[5], Version: l[6], Epoch: l[7], Until: l[8], Mode: l[9], Work: l[10]}
}

// with is a message, but for one of its numbers.
func with(m api.Msg, place, n int) api.Msg {
	l := listOf(m)
	l[place] = n
	return msgOf(l)
}

// numBytes is a number's bytes, as layer 1's words say, by remainders.
func numBytes(n int) []byte {
	var b []byte
	for ; n >= 128; n /= 128 {
		b = append(b, byte(n%128+128))
	}
	return append(b, byte(n))
}

// listBytes is a list's bytes, but with a count that is told.
func listBytes(count []byte, l ...int) []byte {
	b := bytes.Clone(count)
	for _, n := range l {
		b = append(b, numBytes(n)...)
	}
	return b
}

// framed is a payload's frame, as layer 3's words say, but with a number that is told.
func framed(number, payload []byte) []byte {
	s := crc32.ChecksumIEEE(payload)
	return slices.Concat(number, payload, []byte{byte(s >> 24), byte(s >> 16), byte(s >> 8), byte(s), 1})
}

func frameOf(payload []byte) []byte { return framed(numBytes(len(payload)), payload) }

// frameOfList is the frame of a list of numbers, be they a message's or not.
func frameOfList(l ...int) []byte { return frameOf(listBytes(numBytes(len(l)), l...)) }

// wordsPut is a message's bytes, as the words say.
func wordsPut(m api.Msg) []byte { return frameOfList(listOf(m)...) }

// wordsRight asks for each number by itself.
func wordsRight(m api.Msg) bool {
	for place, n := range listOf(m) {
		from, to := 0, 1000000
		switch place {
		case 0:
			to = 5
		case 1:
			from, to = 1, 6
		}
		if n < from || n > to {
			return false
		}
	}
	return true
}

// ordinary are messages of each kind, to and from all nodes, as controllers and agents send them.
func ordinary() []api.Msg {
	l := []api.Msg{
		{Kind: api.Rest},
		{Node: 1, Kind: api.Take, Term: 1, Gen: 1, Job: 1, Inc: 1, Version: 1, Until: 9},
		{Node: 5, Kind: api.Work, Term: 1, Gen: 2, Job: 3, Inc: 4, Version: 6, Epoch: 7, Until: 1000000, Mode: 8, Work: 9},
		{Node: 2, Kind: api.Save, Term: 127, Gen: 128, Job: 24, Inc: 300, Version: 9, Epoch: 16383, Until: 16384, Mode: 1, Work: 1000},
		{Node: 3, Kind: api.Turn, Term: 1, Gen: 2, Version: 2},
		{Node: 4, Kind: api.Report, Term: 7, Gen: 1000, Job: 11, Inc: 2, Version: 3, Mode: api.Working, Work: 55},
		{Node: 5, Kind: api.Report, Term: 1000000, Gen: 1000000, Job: 1000000, Inc: 1000000, Version: 1000000, Epoch: 1000000, Until: 1000000, Mode: 1000000, Work: 1000000},
	}
	for kind := 1; kind <= 6; kind++ {
		l = append(l, api.Msg{Node: kind - 1, Kind: kind, Term: 2, Gen: 130, Job: kind, Inc: 1, Version: kind, Epoch: 0, Until: 999999, Mode: kind % 2, Work: 128 * kind})
	}
	return l
}

// tagged is a message that is told from others by its Gen.
func tagged(n int) api.Msg {
	return api.Msg{Node: n % 6, Kind: 1 + n%6, Term: 1, Gen: n, Job: n % 24, Until: n * 77 % 20000}
}

// edges are those of a message's number at a place, and whether they are right there.
func edges(place int) map[int]bool {
	m := map[int]bool{-1: false, 0: true, 1: true, 127: true, 128: true, 16383: true, 16384: true, 999999: true, 1000000: true, 1000001: false, 1 << 21: false, 1<<32 + 1: false, 1<<53 - 1: false, 1 << 53: false, math.MaxInt: false, math.MinInt: false, -1 << 32: false, math.MinInt + 1: false}
	switch place {
	case 0:
		for n := range m {
			m[n] = n == 0 || n == 1
		}
		m[2], m[3], m[4], m[5], m[6], m[7], m[256], m[257] = true, true, true, true, false, false, false, false
	case 1:
		for n := range m {
			m[n] = n == 1
		}
		m[2], m[3], m[4], m[5], m[6], m[7], m[8], m[257], m[262] = true, true, true, true, true, false, false, false, false
	}
	return m
}

// wrong are messages that aren't right.
func wrong() []api.Msg {
	l := []api.Msg{{}, {Node: 6, Kind: 7, Term: -1, Gen: -1, Job: -1, Inc: -1, Version: -1, Epoch: -1, Until: -1, Mode: -1, Work: -1}}
	for place := range numbers {
		for n, ok := range edges(place) {
			if !ok {
				l = append(l, with(ordinary()[2], place, n))
			}
		}
	}
	return l
}

// wantRight asks whether a message is right, of all calls that tell it, and for its bytes.
func wantRight(t *testing.T, m api.Msg, want bool) {
	t.Helper()
	var n net.Net
	if net.Right(m) != want || n.Send(m) != want {
		t.Errorf("%v: right %v, not %v", m, net.Right(m), want)
	}
	if !want {
		if b := net.Put(m); len(b) != 0 || n.Len() != 0 || n.Sent() != 0 || len(n.List()) != 0 {
			t.Errorf("%v: % x, %d sent", m, b, n.Sent())
		}
		return
	}
	wantBytes(t, m, wordsPut(m))
	if l := n.List(); len(l) != 1 || l[0] != m || n.Len() != 1 || n.Sent() != 1 {
		t.Errorf("%v: %v, %d sent", m, l, n.Sent())
	}
	if got, ok := n.Deliver(0); !ok || got != m {
		t.Errorf("%v: delivered as %v", m, got)
	}
}

func wantBytes(t *testing.T, m api.Msg, b []byte) {
	t.Helper()
	if got := net.Put(m); !bytes.Equal(got, b) {
		t.Errorf("Put(%v): % x, not % x", m, got, b)
	}
	wantGet(t, b, m)
}

func wantGet(t *testing.T, b []byte, m api.Msg) {
	t.Helper()
	if got, ok := net.Get(b); !ok || got != m {
		t.Errorf("Get(% x): %v %v, not %v", b, got, ok, m)
	}
}

func wantNone(t *testing.T, b []byte) {
	t.Helper()
	if got, ok := net.Get(b); ok || got != (api.Msg{}) {
		t.Errorf("Get(% .60x), %d bytes: %v %v, not none", b, len(b), got, ok)
	}
}

// The chapter's own example.
func TestExample(t *testing.T) {
	m := ordinary()[2]
	var n net.Net
	if !n.Send(m) || !n.Twice(0) {
		t.Error("not on its way")
	}
	if got, ok := n.Deliver(1); !ok || got != m {
		t.Error(got, ok)
	}
	if n.Len() != 1 {
		t.Error(n.Len())
	}
}

// P12.1: messages of each kind, of all nodes.
func TestRight(t *testing.T) {
	for _, m := range ordinary() {
		wantRight(t, m, true)
	}
	for node := -2; node <= 8; node++ {
		for kind := -2; kind <= 9; kind++ {
			wantRight(t, api.Msg{Node: node, Kind: kind}, node >= 0 && node <= 5 && kind >= 1 && kind <= 6)
			wantRight(t, api.Msg{Node: node, Kind: kind, Term: 3, Gen: 500, Until: 1000000}, node >= 0 && node <= 5 && kind >= 1 && kind <= 6)
		}
	}
}

// P12.1: each number at its edges, beside small numbers and beside the greatest.
func TestRightAtEdges(t *testing.T) {
	for _, m := range []api.Msg{{Kind: 1}, ordinary()[2], ordinary()[6]} {
		for place := range numbers {
			for n, want := range edges(place) {
				wantRight(t, with(m, place, n), want)
				if wordsRight(with(m, place, n)) != want {
					t.Fatal("the words:", place, n)
				}
			}
		}
	}
}

// P12.1: what isn't right of two numbers isn't, either.
func TestRightOfPairs(t *testing.T) {
	at := func(place int) []int {
		switch place {
		case 0:
			return []int{-1, 0, 5, 6}
		case 1:
			return []int{0, 1, 6, 7}
		}
		return []int{-1, 0, 128, 1000000, 1000001}
	}
	for one := range numbers {
		for other := range one {
			for _, a := range at(one) {
				for _, b := range at(other) {
					m := with(with(api.Msg{Node: 2, Kind: 3}, one, a), other, b)
					wantRight(t, m, wordsRight(m))
				}
			}
		}
	}
}

// P12.1: bytes written out.
func TestBytes(t *testing.T) {
	l := ordinary()
	for _, x := range []struct {
		m api.Msg
		b string
	}{
		{l[0], "\x0c\x0b\x00\x01\x00\x00\x00\x00\x00\x00\x00\x00\x00\xe5\x85\x09\x5f\x01"},
		{l[1], "\x0c\x0b\x01\x02\x01\x01\x01\x01\x01\x00\x09\x00\x00\x4b\x77\xb3\x6f\x01"},
		{l[2], "\x0e\x0b\x05\x03\x01\x02\x03\x04\x06\x07\xc0\x84\x3d\x08\x09\xe4\xc3\x96\x51\x01"},
		{l[3], "\x12\x0b\x02\x04\x7f\x80\x01\x18\xac\x02\x09\xff\x7f\x80\x80\x01\x01\xe8\x07\xed\x55\x79\xa5\x01"},
		{l[4], "\x0c\x0b\x03\x05\x01\x02\x00\x00\x02\x00\x00\x00\x00\x5a\x12\x8f\x7a\x01"},
		{l[6], "\x1e\x0b\x05\x06\xc0\x84\x3d\xc0\x84\x3d\xc0\x84\x3d\xc0\x84\x3d\xc0\x84\x3d\xc0\x84\x3d\xc0\x84\x3d\xc0\x84\x3d\xc0\x84\x3d\xd7\xd8\x69\xc1\x01"},
	} {
		wantBytes(t, x.m, []byte(x.b))
	}
}

// P12.1: each number stands at its own place: all of them differ.
func TestOrderOfNumbers(t *testing.T) {
	m := api.Msg{Node: 4, Kind: 5, Term: 101, Gen: 102, Job: 103, Inc: 104, Version: 105, Epoch: 106, Until: 107, Mode: 108, Work: 109}
	wantBytes(t, m, frameOfList(4, 5, 101, 102, 103, 104, 105, 106, 107, 108, 109))
	for place := 2; place < numbers; place++ {
		l := []int{4, 5, 0, 0, 0, 0, 0, 0, 0, 0, 0}
		l[place] = 777
		wantBytes(t, msgOf(l), frameOfList(l...))
	}
}

// P12.1: each byte turned into each other one, and each bit: none is a message. (P12.4 for a bit.)
func TestTurned(t *testing.T) {
	for _, m := range ordinary() {
		b := wordsPut(m)
		for i := range b {
			was := b[i]
			for turn := 1; turn < 256; turn++ {
				b[i] = was ^ byte(turn)
				wantNone(t, b)
			}
			b[i] = was
		}
		wantGet(t, b, m)
	}
}

// P12.1: bytes that end too early, at every place, with noughts and other bytes in their place too.
func TestShort(t *testing.T) {
	wantNone(t, nil)
	wantNone(t, []byte{})
	for _, m := range ordinary() {
		b := wordsPut(m)
		for n := range b {
			wantNone(t, b[:n]) // though the rest stands in the spare room
			wantNone(t, b[:n:n])
			wantNone(t, b[n+1:])
			noughts := bytes.Clone(b)
			clear(noughts[n:])
			wantNone(t, noughts)
		}
	}
}

// P12.1: bytes that go on behind the end, or begin ahead of it; a byte left out, and a byte put between, at every place.
func TestLong(t *testing.T) {
	for _, m := range ordinary() {
		b := wordsPut(m)
		for _, rest := range [][]byte{{0}, {1}, {255}, {0, 0, 0, 0}, b, b[:5], frameOf([]byte("a")), make([]byte, 5000)} {
			wantNone(t, slices.Concat(b, rest))
			wantNone(t, slices.Concat(rest, b))
		}
		for i := range b {
			wantNone(t, slices.Delete(bytes.Clone(b), i, i+1))
			wantNone(t, slices.Insert(bytes.Clone(b), i, 0))
			wantNone(t, slices.Insert(bytes.Clone(b), i, 1, 1))
		}
	}
	for _, n := range []int{1, 2, 20, 4000, 4010, 1 << 16} {
		wantNone(t, make([]byte, n))
		wantNone(t, bytes.Repeat([]byte{1}, n))
		wantNone(t, bytes.Repeat([]byte{11}, n))
		wantNone(t, bytes.Repeat([]byte{255}, n))
	}
}

// P12.1: frames, whole ones, of what is no list of a message's numbers.
func TestFramesOfOthers(t *testing.T) {
	for _, m := range ordinary() {
		l := listOf(m)
		for place := range numbers {
			wantNone(t, frameOfList(l[:place]...))                                      // fewer
			wantNone(t, frameOfList(slices.Delete(slices.Clone(l), place, place+1)...)) // one fewer
			wantNone(t, frameOfList(slices.Insert(slices.Clone(l), place, 0)...))       // one more
			wantNone(t, frameOfList(slices.Insert(slices.Clone(l), place, l[place])...))
			for n, ok := range edges(place) {
				if w := with(m, place, n); !ok && n >= 0 {
					wantNone(t, frameOfList(listOf(w)...))
				}
			}
			wantNone(t, frameOf(listBytes([]byte{11}, l[:place]...))) // the list ends ahead
		}
		eleven := []byte{11}
		payload := listBytes(eleven, l...)
		wantGet(t, frameOf(payload), m)
		for _, more := range [][]int{{0}, {1}, {0, 0}, l, {128}, {1 << 53}} {
			wantNone(t, frameOfList(append(slices.Clone(l), more...)...))
			wantNone(t, frameOf(listBytes(eleven, append(slices.Clone(l), more...)...))) // behind the list
		}
		wantNone(t, frameOf(append(bytes.Clone(payload), 128)))
		for _, count := range [][]byte{{}, {0}, {1}, {10}, {12}, {128}, {139}, {139, 0}, {139, 1}, {139, 128, 0}, {255, 255, 255, 255, 255, 255, 255, 15}, {255, 255, 255, 255, 255, 255, 255, 255, 127}} {
			wantNone(t, frameOf(listBytes(count, l...)))
		}
		wantNone(t, payload)                    // no frame
		wantNone(t, frameOf(frameOf(payload)))  // a frame's frame
		wantNone(t, frameOf(wordsPut(m)))       // likewise
		wantNone(t, framed([]byte{}, payload))  // no number
		wantNone(t, framed([]byte{0}, payload)) // a wrong one
		wantNone(t, framed([]byte{byte(len(payload)) | 128, 0}, payload))
		wantNone(t, framed([]byte{byte(len(payload)) + 1}, payload))
		wantNone(t, framed([]byte{byte(len(payload)) - 1}, payload))
	}
	wantNone(t, frameOf(nil))
	wantNone(t, frameOf([]byte("a")))
	wantNone(t, frameOf(make([]byte, 12)))
	wantNone(t, frameOf(bytes.Repeat([]byte{11}, 12)))
	wantNone(t, frameOf(make([]byte, 4000)))
	wantNone(t, frameOf(append(listBytes([]byte{11}, listOf(ordinary()[0])...), make([]byte, 3988)...)))
}

// P12.1: a message's numbers that aren't as short as may be.
func TestLongNumbers(t *testing.T) {
	for _, m := range ordinary() {
		for place := range numbers {
			payload := []byte{11}
			for i, n := range listOf(m) {
				b := numBytes(n)
				if i == place {
					b[len(b)-1] |= 128
					b = append(b, 0)
				}
				payload = append(payload, b...)
			}
			wantNone(t, frameOf(payload))
		}
	}
}

// letter is a message that is on its way, as the chapter's words have it: what was sent, and which bit was turned.
type letter struct {
	m      api.Msg
	bit    int
	turned bool
}

// words is a net as the chapter's words say: P12.4 in the place of bytes.
type words struct {
	way  []letter
	sent int
}

func (w *words) there(i int) bool {
	for k := range w.way {
		if k == i {
			return true
		}
	}
	return false
}

func (w *words) send(m api.Msg) bool {
	if !wordsRight(m) || len(w.way) == full {
		return false
	}
	w.way = append(w.way, letter{m: m})
	w.sent++
	return true
}

func (w *words) drop(i int) bool {
	if !w.there(i) {
		return false
	}
	var l []letter
	for k, x := range w.way {
		if k != i {
			l = append(l, x)
		}
	}
	w.way = l
	return true
}

func (w *words) deliver(i int) (api.Msg, bool) {
	if !w.there(i) {
		return api.Msg{}, false
	}
	x := w.way[i]
	w.drop(i)
	if x.turned {
		return api.Msg{}, false
	}
	return x.m, true
}

func (w *words) twice(i int) bool {
	if len(w.way) == full || !w.there(i) {
		return false
	}
	w.way = append(w.way, w.way[i])
	return true
}

func (w *words) flip(i, bit int) bool {
	if !w.there(i) || w.way[i].turned || bit < 0 || bit > 8*len(wordsPut(w.way[i].m))-1 {
		return false
	}
	w.way[i].turned, w.way[i].bit = true, bit
	return true
}

func (w *words) list() []api.Msg {
	var l []api.Msg
	for _, x := range w.way {
		if !x.turned {
			l = append(l, x.m)
		}
	}
	return l
}

// step is something that is done to a net.
type step struct {
	what   string
	m      api.Msg
	i, bit int
}

// both is a net, and what the words say of it.
type both struct {
	n *net.Net
	w *words
}

func newBoth() both { return both{new(net.Net), &words{}} }

// filled is a net with so many messages on their way.
func filled(t *testing.T, size int) both {
	t.Helper()
	x := newBoth()
	for k := range size {
		x.do(t, step{what: "send", m: tagged(k)})
	}
	return x
}

// do does a step to both, and holds everything that can be asked against the words; it answers whether the words say true.
func (x both) do(t *testing.T, s step) bool {
	t.Helper()
	want := x.quiet(t, s)
	x.alike(t, s)
	return want
}

// quiet does a step to both, and holds what it answers against the words.
func (x both) quiet(t *testing.T, s step) bool {
	t.Helper()
	var got, want bool
	var gm, wm api.Msg
	switch s.what {
	case "send":
		got, want = x.n.Send(s.m), x.w.send(s.m)
	case "deliver":
		gm, got = x.n.Deliver(s.i)
		wm, want = x.w.deliver(s.i)
	case "drop":
		got, want = x.n.Drop(s.i), x.w.drop(s.i)
	case "twice":
		got, want = x.n.Twice(s.i), x.w.twice(s.i)
	case "flip":
		got, want = x.n.Flip(s.i, s.bit), x.w.flip(s.i, s.bit)
	default:
		t.Fatal("no step:", s.what)
	}
	if got != want || gm != wm {
		t.Fatalf("%v: %v %v, not %v %v", s, got, gm, want, wm)
	}
	return want
}

func (x both) alike(t *testing.T, s step) {
	t.Helper()
	if l := x.n.List(); x.n.Len() != len(x.w.way) || x.n.Sent() != x.w.sent || !slices.Equal(l, x.w.list()) {
		t.Fatalf("behind %v: %d on their way, %d sent, %v; by the words %d, %d, %v", s, x.n.Len(), x.n.Sent(), l, len(x.w.way), x.w.sent, x.w.list())
	}
}

// emptied delivers all that is on its way, from the first place or from the last one on.
func (x both) emptied(t *testing.T, fromLast bool) {
	t.Helper()
	for len(x.w.way) > 0 {
		i := 0
		if fromLast {
			i = len(x.w.way) - 1
		}
		x.do(t, step{what: "deliver", i: i})
	}
	x.do(t, step{what: "deliver"})
}

// places are those around a net's first and last message, some between, and numbers far off.
func places(size int) []int {
	return []int{math.MinInt, math.MinInt + 1, -1 << 32, -size - 1, -size, -2, -1, 0, 1, size / 2, size - 2, size - 1, size, size + 1, 39, 40, 41, 1 << 32, 1<<32 + 1, math.MaxInt - 1, math.MaxInt}
}

// bitsAround are those around the ends of a message's bytes.
func bitsAround(m api.Msg) []int {
	last := 8*len(wordsPut(m)) - 1
	return []int{math.MinInt, math.MinInt + 1, -1 << 32, -last, -8, -7, -1, 0, 1, 7, 8, last / 2, last - 8, last - 1, last, last + 1, last + 2, last + 8, 288, 1000, 1 << 32, 1<<32 + 1, math.MaxInt - 7, math.MaxInt}
}

// P12.2, P12.3: a net is empty at first: there is no message to do anything to.
func TestEmpty(t *testing.T) {
	var zero net.Net
	for _, n := range []*net.Net{&zero, new(net.Net), {}} {
		x := both{n, &words{}}
		for _, i := range places(0) {
			for _, s := range []step{{what: "deliver", i: i}, {what: "drop", i: i}, {what: "twice", i: i}, {what: "flip", i: i}, {what: "flip", i: i, bit: 5}} {
				if x.do(t, s) {
					t.Error(s)
				}
			}
		}
		if !x.do(t, step{what: "send", m: tagged(3)}) {
			t.Error("not sent")
		}
	}
}

// P12.2, P12.3: nets with 0, 1, 39, 40 messages, and some between: what is sent to a full one is lost, and doubled neither.
func TestSizes(t *testing.T) {
	for _, size := range []int{0, 1, 2, 3, 7, 8, 20, 38, 39, 40} {
		x := filled(t, size)
		if x.n.Len() != size || x.n.Sent() != size || len(x.n.List()) != size {
			t.Fatal(size, x.n.Len(), x.n.Sent())
		}
		room := size < full
		if x.do(t, step{what: "send", m: tagged(500)}) != room {
			t.Error(size, "send")
		}
		x = filled(t, size)
		doubled := x.do(t, step{what: "twice", i: size - 1})
		if doubled != (room && size > 0) {
			t.Error(size, "twice")
		}
		sent := 0
		for k := range 50 {
			if x.do(t, step{what: "send", m: tagged(600 + k)}) {
				sent++
			}
		}
		if doubled {
			sent++
		}
		if x.n.Len() != full || size+sent != full {
			t.Error(size, sent, x.n.Len())
		}
		for range 3 {
			x.do(t, step{what: "send", m: tagged(7)})
			x.do(t, step{what: "twice", i: 39})
			x.do(t, step{what: "flip", i: 39, bit: 3})
			x.do(t, step{what: "deliver", i: 3})
			x.do(t, step{what: "send", m: tagged(8)})
			x.do(t, step{what: "drop", i: 0})
			x.do(t, step{what: "twice", i: 38})
		}
		x.emptied(t, size%2 == 0)
		if x.n.Len() != 0 || len(x.n.List()) != 0 {
			t.Error(size)
		}
	}
}

// P12.2: each call at the first place, at the last one, between them, and where there is none.
func TestPlaces(t *testing.T) {
	for _, size := range []int{1, 2, 3, 5, 39, 40} {
		for _, i := range places(size) {
			is := i >= 0 && i < size
			for _, s := range []step{{what: "deliver", i: i}, {what: "drop", i: i}, {what: "twice", i: i}, {what: "flip", i: i, bit: 9}} {
				x := filled(t, size)
				want := is && (s.what != "twice" || size < full)
				if x.do(t, s) != want {
					t.Error(size, s)
				}
				// The others are as they were, each at its place.
				for _, again := range []step{s, {what: "drop", i: 0}, {what: "send", m: tagged(90)}, {what: "twice", i: size - 2}} {
					x.do(t, again)
				}
				x.emptied(t, i%2 == 0)
			}
		}
	}
}

// P12.2: what is delivered is taken from each place, and the others go up by one.
func TestDeliver(t *testing.T) {
	for size := 1; size <= 6; size++ {
		for i := range size {
			x := filled(t, size)
			if got, ok := x.n.Deliver(i); !ok || got != tagged(i) {
				t.Error(size, i, got, ok)
			}
			l := x.n.List()
			for k := range size - 1 {
				want := tagged(k)
				if k >= i {
					want = tagged(k + 1)
				}
				if len(l) != size-1 || l[k] != want {
					t.Fatal(size, i, l)
				}
			}
		}
	}
	for _, m := range ordinary() {
		var n net.Net
		n.Send(m)
		if got, ok := n.Deliver(0); !ok || got != m || n.Len() != 0 || n.Sent() != 1 {
			t.Error(got, ok, m)
		}
	}
}

// P12.2: what was turned is delivered as none, from each place, and isn't on its way any more.
func TestDeliverTurned(t *testing.T) {
	for size := 1; size <= 6; size++ {
		for i := range size {
			for _, bit := range []int{0, 7, 8, 60, 100, 143} {
				x := filled(t, size)
				if !x.do(t, step{what: "flip", i: i, bit: bit}) || x.n.Len() != size || len(x.n.List()) != size-1 {
					t.Error(size, i, bit)
				}
				if m, ok := x.n.Deliver(i); ok || m != (api.Msg{}) || x.n.Len() != size-1 || len(x.n.List()) != size-1 {
					t.Error(size, i, bit, m, ok, x.n.Len())
				}
				x.w.drop(i)
				x.emptied(t, false)
			}
		}
	}
}

// P12.2: a bit of -1, 0, the last one of a message's bytes and one above it: of messages of all sizes, at each place.
func TestBits(t *testing.T) {
	for _, m := range ordinary() {
		last := 8*len(wordsPut(m)) - 1
		for _, bit := range bitsAround(m) {
			for i := range 3 {
				x := newBoth()
				for k := range 3 {
					if k == i {
						x.do(t, step{what: "send", m: m})
					} else { // longer than all others, and shorter
						x.do(t, step{what: "send", m: ordinary()[6*(k%2)]})
					}
				}
				want := bit >= 0 && bit <= last
				if x.do(t, step{what: "flip", i: i, bit: bit}) != want {
					t.Error(m, bit)
				}
				if x.do(t, step{what: "flip", i: i, bit: 0}) == want { // nothing was done, if it was false
					t.Error(m, bit, "again")
				}
				x.emptied(t, true)
			}
		}
	}
}

// P12.4: a message with one bit turned is no message: of every message, every bit.
func TestEachBit(t *testing.T) {
	for _, m := range ordinary() {
		for bit := range 8 * len(wordsPut(m)) {
			x := newBoth()
			x.do(t, step{what: "send", m: tagged(1)})
			x.do(t, step{what: "send", m: m})
			x.do(t, step{what: "twice", i: 1})
			if !x.do(t, step{what: "flip", i: 1, bit: bit}) {
				t.Fatal(m, bit)
			}
			if got, ok := x.n.Deliver(1); ok || got != (api.Msg{}) {
				t.Error(m, bit, got)
			}
			if l := x.n.List(); len(l) != 2 || l[0] != tagged(1) || l[1] != m {
				t.Error(m, bit, l)
			}
		}
	}
}

// P12.2: turned, doubled, and turned again, in each order.
func TestTurnedAndDoubled(t *testing.T) {
	flip := func(i, bit int) step { return step{what: "flip", i: i, bit: bit} }
	twice := func(i int) step { return step{what: "twice", i: i} }
	for _, x := range []struct {
		steps []step
		want  []bool
		right []bool // which of those on their way are messages
	}{
		{[]step{flip(0, 3), flip(0, 4)}, []bool{true, false}, []bool{false}},
		{[]step{flip(0, 3), flip(0, 3)}, []bool{true, false}, []bool{false}},
		{[]step{flip(0, -1), flip(0, 3)}, []bool{false, true}, []bool{false}},
		{[]step{flip(0, 3), twice(0), flip(1, 3)}, []bool{true, true, false}, []bool{false, false}},
		{[]step{flip(0, 3), twice(0), flip(1, 4), flip(0, 4)}, []bool{true, true, false, false}, []bool{false, false}},
		{[]step{twice(0), flip(0, 3), flip(1, 3)}, []bool{true, true, true}, []bool{false, false}},
		{[]step{twice(0), flip(0, 3), flip(0, 3)}, []bool{true, true, false}, []bool{false, true}},
		{[]step{twice(0), flip(1, 3), flip(1, 3)}, []bool{true, true, false}, []bool{true, false}},
		{[]step{twice(0), flip(1, 3), flip(0, 5), flip(0, 5), flip(1, 5)}, []bool{true, true, true, false, false}, []bool{false, false}},
		{[]step{twice(0), flip(0, 3), twice(0), twice(1)}, []bool{true, true, true, true}, []bool{false, true, false, true}},
		{[]step{twice(0), flip(1, 3), twice(1), flip(2, 3), flip(0, 3)}, []bool{true, true, true, false, true}, []bool{false, false, false}},
		{[]step{twice(0), twice(1), flip(2, 3), flip(1, 0), flip(0, 9)}, []bool{true, true, true, true, true}, []bool{false, false, false}},
		{[]step{twice(0), twice(1), flip(1, 3), flip(1, 3), flip(2, 3)}, []bool{true, true, true, false, true}, []bool{true, false, false}},
		{[]step{flip(0, 3), twice(0), twice(1), flip(2, 3), flip(2, 5)}, []bool{true, true, true, false, false}, []bool{false, false, false}},
		{[]step{flip(0, 3), twice(0), {what: "drop"}, flip(0, 3), twice(0), flip(1, 3)}, []bool{true, true, true, false, true, false}, []bool{false, false}},
		{[]step{twice(0), flip(0, 3), {what: "drop"}, flip(0, 3), flip(0, 3)}, []bool{true, true, true, true, false}, []bool{false}},
		{[]step{twice(0), flip(0, 3), {what: "deliver", i: 1}, twice(0), flip(1, 3)}, []bool{true, true, true, true, false}, []bool{false, false}},
		{[]step{flip(0, 3), {what: "deliver"}, {what: "send", m: tagged(5)}, flip(0, 3)}, []bool{true, false, true, true}, []bool{false}},
	} {
		b := filled(t, 1)
		for k, s := range x.steps {
			if got := b.do(t, s); got != x.want[k] {
				t.Errorf("%v: step %d: %v", x.steps, k, got)
			}
		}
		if b.n.Len() != len(x.right) {
			t.Fatal(x.steps, b.n.Len())
		}
		for k, right := range x.right {
			if _, ok := b.n.Deliver(0); ok != right {
				t.Errorf("%v: message %d: %v", x.steps, k, ok)
			}
		}
	}
}

// P12.2: one more stands behind all, just like it is; the one that it is like stays at its place.
func TestTwice(t *testing.T) {
	for size := 1; size < 7; size++ {
		for i := range size {
			x := filled(t, size)
			if !x.do(t, step{what: "twice", i: i}) {
				t.Error(size, i)
			}
			want := append(slices.Clone(x.w.list()[:size]), tagged(i))
			if !slices.Equal(x.n.List(), want) || x.n.Sent() != size {
				t.Error(size, i, x.n.List())
			}
			if m, ok := x.n.Deliver(size); !ok || m != tagged(i) {
				t.Error(size, i, m)
			}
			if m, ok := x.n.Deliver(i); !ok || m != tagged(i) {
				t.Error(size, i, m)
			}
		}
	}
}

// P12.2: of a full net, nothing is doubled, and nothing done, whatever was turned; behind a message that is gone it is.
func TestTwiceOfFull(t *testing.T) {
	x := filled(t, full)
	x.do(t, step{what: "flip", i: 17, bit: 1})
	for i := -1; i <= full; i++ {
		if x.do(t, step{what: "twice", i: i}) {
			t.Error(i)
		}
	}
	x.do(t, step{what: "drop", i: 4})
	if !x.do(t, step{what: "twice", i: 16}) || x.do(t, step{what: "twice", i: 16}) {
		t.Error("behind one that is gone")
	}
	if x.n.Len() != full || x.do(t, step{what: "flip", i: 39, bit: 2}) || !x.do(t, step{what: "flip", i: 38, bit: 2}) {
		t.Error(x.n.Len())
	}
	x.emptied(t, true)
}

// P12.3: Sent counts what Send answered true alone: nothing that was lost, or isn't right, or was doubled; nor does it ever go back.
func TestSent(t *testing.T) {
	var n net.Net
	sent := 0
	send := func(m api.Msg, want bool) {
		t.Helper()
		if n.Send(m) != want {
			t.Errorf("Send(%v): not %v", m, want)
		}
		if want {
			sent++
		}
		if n.Sent() != sent {
			t.Fatalf("%d sent, not %d", n.Sent(), sent)
		}
	}
	for _, m := range wrong() {
		send(m, false)
	}
	for k := range full {
		send(tagged(k), true)
		send(wrong()[k], false)
	}
	for _, m := range slices.Concat(ordinary(), wrong()) { // all of them are lost
		send(m, false)
	}
	if n.Len() != full || n.Twice(0) || n.Sent() != full {
		t.Error(n.Len(), n.Sent())
	}
	n.Flip(5, 5)
	n.Deliver(5)
	n.Deliver(5)
	n.Drop(5)
	n.Drop(99)
	if n.Sent() != full {
		t.Error(n.Sent())
	}
	n.Twice(5)
	n.Twice(5)
	send(api.Msg{}, false)
	send(tagged(1), true)
	send(tagged(1), false)
	for range full {
		n.Deliver(0)
	}
	send(tagged(2), true)
	if n.Sent() != full+2 || n.Len() != 1 {
		t.Error(n.Sent(), n.Len())
	}
}

// P12.3: List are those that are messages', in order, the first and the last one turned, and each between.
func TestList(t *testing.T) {
	for turned := range 1 << 6 {
		x := filled(t, 6)
		var want []api.Msg
		for i := range 6 {
			if turned>>i&1 == 1 {
				x.do(t, step{what: "flip", i: i, bit: 20 * i})
			} else {
				want = append(want, tagged(i))
			}
		}
		for range 2 { // asking changes nothing
			if l := x.n.List(); !slices.Equal(l, want) || x.n.Len() != 6 || x.n.Sent() != 6 {
				t.Errorf("%06b: %v", turned, l)
			}
		}
	}
	x := filled(t, full)
	if l := x.n.List(); len(l) != full || l[0] != tagged(0) || l[39] != tagged(39) {
		t.Error(l)
	}
}

// A nil net: false, none, 0.
func TestNil(t *testing.T) {
	var n *net.Net
	for range 2 {
		for _, i := range append(places(0), 6, 7) {
			m, ok := n.Deliver(i)
			if ok || m != (api.Msg{}) || n.Drop(i) || n.Twice(i) || n.Flip(i, 0) || n.Flip(0, i) || n.Flip(i, i) {
				t.Error(i, m, ok)
			}
		}
		for _, m := range slices.Concat(ordinary(), wrong()) {
			if n.Send(m) {
				t.Error(m)
			}
		}
		if n.Len() != 0 || len(n.List()) != 0 || n.Sent() != 0 {
			t.Error(n.Len(), n.List(), n.Sent())
		}
	}
}

// shortSteps are steps of each call, at the first few places.
func shortSteps() []step {
	l := []step{{what: "send", m: tagged(70)}, {what: "send", m: api.Msg{Node: 6, Kind: 1}}, {what: "flip", i: 0, bit: 144}}
	for i := range 3 {
		l = append(l, step{what: "deliver", i: i}, step{what: "drop", i: i}, step{what: "twice", i: i}, step{what: "flip", i: i, bit: 7 + i})
	}
	return l
}

// P12.2, P12.3: each run of few steps, in each order, of nets with few messages and of full ones, is what the words say.
func TestEveryRun(t *testing.T) {
	steps := shortSteps()
	for _, c := range []struct{ size, depth int }{{0, 4}, {1, 4}, {2, 3}, {38, 3}, {39, 3}, {40, 3}} {
		runs := 1
		for range c.depth {
			runs *= len(steps)
		}
		for run := range runs {
			x := newBoth()
			for k := range c.size {
				x.quiet(t, step{what: "send", m: tagged(k)})
			}
			left := run
			var s step
			for range c.depth {
				s = steps[left%len(steps)]
				left /= len(steps)
				x.quiet(t, s)
			}
			x.alike(t, s)
		}
	}
}

// chance is a plain row of numbers, the same one each time.
type chance uint64

func (c *chance) below(n int) int {
	*c = *c*6364136223846793005 + 1442695040888963407
	return int(uint64(*c) >> 33 % uint64(n))
}

// anyMsg is a message, right but once in a while.
func (c *chance) anyMsg() api.Msg {
	l := []int{c.below(6), 1 + c.below(6)}
	for len(l) < numbers {
		l = append(l, []int{c.below(3), c.below(200), c.below(20000), 1000000 - c.below(3)}[c.below(4)])
	}
	if c.below(12) == 0 {
		l[c.below(numbers)] = []int{-1, 1000001, math.MinInt, math.MaxInt, 1 << 40}[c.below(5)]
	}
	return msgOf(l)
}

// anyStep is a step at or near what is on its way; ahead tells how often it is sent, of 10.
func (c *chance) anyStep(w *words, ahead int) step {
	i := c.below(len(w.way)+2) - 1
	if c.below(40) == 0 {
		i = places(len(w.way))[c.below(21)]
	}
	if c.below(10) < ahead {
		return step{what: "send", m: c.anyMsg()}
	}
	s := step{what: []string{"deliver", "deliver", "drop", "twice", "twice", "flip"}[c.below(6)], i: i}
	if s.what == "flip" {
		s.bit = c.below(310) - 4
	}
	return s
}

// P12.1: many messages, right ones and others, are put and read as the words say.
func TestManyMessages(t *testing.T) {
	c := chance(12)
	for range 20000 {
		m := c.anyMsg()
		wantRight(t, m, wordsRight(m))
	}
}

// P12.2, P12.3: long runs, of nets that are often empty, and often full, are what the words say.
func TestLongRuns(t *testing.T) {
	for ahead := 1; ahead <= 8; ahead++ {
		c := chance(ahead)
		x := newBoth()
		met := map[string]int{}
		for range 6000 {
			s := c.anyStep(x.w, ahead)
			if x.do(t, s) {
				met[s.what]++
			}
		}
		for _, what := range []string{"send", "deliver", "drop", "twice", "flip"} {
			if met[what] < 40 {
				t.Error("of", ahead, "the run does", what, "times", met[what])
			}
		}
	}
}

// P12.4: what is delivered was sent, just so; as often as it was sent, and doubled, at most. Told by what Send, Twice and Deliver answer.
func TestDeliveredWasSent(t *testing.T) {
	for ahead := 2; ahead <= 7; ahead++ {
		c := chance(900 + ahead)
		x := newBoth()
		may := map[api.Msg]int{} // how often it may be delivered yet
		delivered := 0
		for k := range 8000 {
			s := c.anyStep(x.w, ahead)
			if s.what == "send" {
				s.m.Gen = k % 50 // some are the same as others
			}
			switch s.what {
			case "send":
				if x.n.Send(s.m) {
					may[s.m]++
				}
				x.w.send(s.m)
			case "twice":
				if x.w.there(s.i) {
					m := x.w.way[s.i].m
					if x.n.Twice(s.i) {
						may[m]++
					}
					x.w.twice(s.i)
				}
			case "deliver":
				x.w.deliver(s.i)
				if m, ok := x.n.Deliver(s.i); ok {
					if may[m]--; may[m] < 0 {
						t.Fatalf("of %d, step %d: %v is delivered too often", ahead, k, m)
					}
					delivered++
				}
			default:
				x.quiet(t, s)
			}
		}
		if delivered < 500 {
			t.Error("of", ahead, "delivered:", delivered)
		}
	}
}

// Rule 6: what is answered hangs on what was done alone: the same steps come to the same, and nets don't hang on each other.
func TestNetsApart(t *testing.T) {
	one, other, still := newBoth(), newBoth(), filled(t, 3)
	c, d := chance(5), chance(5)
	for range 2000 {
		s := c.anyStep(one.w, 5)
		one.quiet(t, s)
		if again := d.anyStep(other.w, 5); again != s {
			t.Fatal(s, again)
		}
		other.quiet(t, s)
		if !slices.Equal(one.n.List(), other.n.List()) || one.n.Sent() != other.n.Sent() || one.n.Len() != other.n.Len() {
			t.Fatal(s)
		}
	}
	still.alike(t, step{})
	still.emptied(t, false)
}

// spoil writes over a list and its spare room.
func spoil(b []byte) {
	b = b[:cap(b)]
	for i := range b {
		b[i] = '#'
	}
}

// Rule 4: bytes that are handed in are neither changed nor kept, their spare room included.
func TestHandedIn(t *testing.T) {
	for _, m := range ordinary() {
		whole := slices.Concat([]byte{9, 8, 7}, wordsPut(m), []byte{6, 5, 4})
		was := bytes.Clone(whole)
		b := whole[3 : len(whole)-3]
		got, ok := net.Get(b)
		wantNone(t, whole)
		wantNone(t, b[:len(b)-1])
		if !bytes.Equal(whole, was) {
			t.Fatalf("changed: % x", whole)
		}
		spoil(whole)
		if !ok || got != m {
			t.Error(got, ok)
		}
	}
}

// Rule 4: bytes and lists that are handed out are new memory, their spare room too: who changes them changes neither the net nor what is answered later.
func TestHandedOut(t *testing.T) {
	m := ordinary()[2]
	first, second := net.Put(m), net.Put(m)
	var n net.Net
	n.Send(m)
	n.Send(tagged(4))
	n.Twice(0)
	spoil(first)
	if !bytes.Equal(second, wordsPut(m)) {
		t.Errorf("% x", second)
	}
	spoil(net.Put(m))
	wantBytes(t, m, wordsPut(m))
	want := []api.Msg{m, tagged(4), m}
	l, held := n.List(), n.List()
	all := l[:cap(l)]
	for i := range all {
		all[i] = tagged(99)
	}
	_ = append(n.List()[:1], tagged(98), tagged(97))
	if !slices.Equal(n.List(), want) || !slices.Equal(held, want) {
		t.Error(n.List(), held)
	}
	n.Flip(1, 3)
	n.Drop(0)
	n.Send(tagged(5))
	if !slices.Equal(held, want) || !slices.Equal(n.List(), []api.Msg{m, tagged(5)}) {
		t.Error(held, n.List())
	}
	for range 3 {
		n.Deliver(0)
	}
	if !slices.Equal(held, want) || n.Len() != 0 {
		t.Error(held)
	}
}
