package ops_test

import (
	"bytes"
	"math"
	"regexp"
	"slices"
	"strconv"
	"strings"
	"testing"

	"dunnage/api"
	"dunnage/ops"
)

const (
	places   = 6       // numbers of an op
	mostNum  = 1000000 // the greatest of them
	greatest = 1<<53 - 1
)

// kinds are the names, and how many numbers each has, from kind 1 on.
var kinds = []struct {
	name string
	has  int
}{
	{"submit", 6}, {"cancel", 1}, {"target", 1}, {"pause", 0}, {"resume", 0}, {"abort", 0}, {"down", 1}, {"up", 2}, {"hold", 2}, {"start", 2},
	{"unhold", 1}, {"drain", 2}, {"saved", 2}, {"evict", 1}, {"done", 1}, {"cordon", 1}, {"uncordon", 1}, {"move", 1}, {"moved", 2}, {"shrink", 2}, {"newterm", 0},
}

// edges are numbers around each place where one needs a byte or a digit more, and around both ends.
var edges = []int{0, 1, 2, 9, 10, 99, 100, 126, 127, 128, 129, 999, 1000, 16383, 16384, 99999, 100000, 999999, mostNum}

// noNumbers are those that no op has.
var noNumbers = []int{math.MinInt, math.MinInt + 1, -1 << 32, -mostNum, -128, -10, -2, -1, mostNum + 1, mostNum + 2, 1 << 20, 1<<21 - 1, 1 << 21, 1<<32 - 1, 1 << 32, 1<<32 + 1, greatest, greatest + 1, 1 << 62, math.MaxInt - 1, math.MaxInt}

// noKinds are those that there aren't.
var noKinds = []int{math.MinInt, math.MinInt + 1, -1<<32 + 1, -255, -21, -2, -1, 0, 22, 23, 32, 127, 128, 129, 255, 256, 257, 1<<32 + 1, greatest, greatest + 1, 1 << 62, math.MaxInt - 1, math.MaxInt}

// op is that of a kind and its first numbers.
func op(kind int, l ...int) api.Op {
	o := api.Op{Kind: kind}
	for i, p := range []*int{&o.A, &o.B, &o.C, &o.D, &o.E, &o.F} {
		if i < len(l) {
			*p = l[i]
		}
	}
	return o
}

// numbersOf are all the places of an op.
func numbersOf(o api.Op) []int { return []int{o.A, o.B, o.C, o.D, o.E, o.F} }

// isRight says whether an op is, as the words say.
func isRight(o api.Op) bool {
	if o.Kind < 1 || o.Kind > 21 {
		return false
	}
	has := kinds[o.Kind-1].has
	l := numbersOf(o)
	for _, n := range l[has:] {
		if n != 0 {
			return false
		}
	}
	return slices.Min(l) >= 0 && slices.Max(l) <= mostNum
}

// numBytes is a number's bytes, as layer 1's words say.
func numBytes(n int) []byte {
	var b []byte
	for ; n >= 128; n /= 128 {
		b = append(b, byte(n%128+128))
	}
	return append(b, byte(n))
}

// listBytes is a list's.
func listBytes(l ...int) []byte {
	b := numBytes(len(l))
	for _, n := range l {
		b = append(b, numBytes(n)...)
	}
	return b
}

// bytesOf is a right op's bytes.
func bytesOf(o api.Op) []byte {
	return listBytes(append([]int{o.Kind}, numbersOf(o)[:kinds[o.Kind-1].has]...)...)
}

// wordsOf is a right op's words.
func wordsOf(o api.Op) string {
	s := kinds[o.Kind-1].name
	for _, n := range numbersOf(o)[:kinds[o.Kind-1].has] {
		s += " " + strconv.Itoa(n)
	}
	return s
}

// readBytes is the op of bytes: they are cut into groups, and must be the list's that is seen there.
func readBytes(b []byte) (api.Op, bool) {
	var l []int
	for i, start := 0, 0; i < len(b); i++ {
		if b[i] >= 128 {
			continue
		}
		if i-start > 3 {
			return api.Op{}, false // 2^28 or more, or longer than it need be
		}
		n := 0
		for k := i; k >= start; k-- {
			n = n*128 + int(b[k]%128)
		}
		l, start = append(l, n), i+1
	}
	if len(l) < 2 || !bytes.Equal(listBytes(l[1:]...), b) {
		return api.Op{}, false
	}
	o := op(l[1], l[2:]...)
	if !isRight(o) || len(l) != 2+kinds[o.Kind-1].has {
		return api.Op{}, false
	}
	return o, true
}

var wordsForm = regexp.MustCompile(`^([a-z]+)((?: (?:0|[1-9][0-9]{0,6}))*)$`)

// readWords is the op of words, by their form.
func readWords(s string) (api.Op, bool) {
	m := wordsForm.FindStringSubmatch(s)
	if m == nil {
		return api.Op{}, false
	}
	var l []int
	for _, w := range strings.Fields(m[2]) {
		n := 0
		for _, c := range w {
			n = n*10 + int(c-'0')
		}
		l = append(l, n)
	}
	for i, k := range kinds {
		if k.name == m[1] && k.has == len(l) && isRight(op(i+1, l...)) {
			return op(i+1, l...), true
		}
	}
	return api.Op{}, false
}

// rightOps are ops of each kind, with each edge in each place that it has.
func rightOps() []api.Op {
	var l []api.Op
	for i, k := range kinds {
		kind := i + 1
		l = append(l, op(kind), op(kind, []int{6, 5, 4, 3, 2, 1}[:k.has]...))
		for _, n := range edges {
			l = append(l, op(kind, slices.Repeat([]int{n}, k.has)...))
			for at := range k.has {
				for _, other := range []int{0, 7, 128, mostNum} {
					numbers := slices.Repeat([]int{other}, k.has)
					numbers[at] = n
					l = append(l, op(kind, numbers...))
				}
				l = append(l, op(kind, edges[at:at+k.has]...))
			}
		}
	}
	return l
}

// wrongOps are those of no kind, those that have a number that no op has, and those that have one that their kind hasn't.
func wrongOps() []api.Op {
	var l []api.Op
	for _, kind := range noKinds {
		for _, n := range append(edges, noNumbers...) {
			l = append(l, op(kind), op(kind, n), op(kind, n, n), op(kind, 1, 1, 1, 1, 1, n))
		}
	}
	for i, k := range kinds {
		for at := range places {
			wrong := noNumbers
			if at >= k.has {
				wrong = append(edges[1:], noNumbers...) // any other than 0
			}
			for _, n := range wrong {
				for _, other := range []int{0, 5, mostNum} {
					numbers := append(slices.Repeat([]int{other}, k.has), make([]int, places-k.has)...)
					numbers[at] = n
					l = append(l, op(i+1, numbers...))
				}
			}
		}
	}
	return l
}

func wantGet(t *testing.T, b []byte, o api.Op, ok bool) {
	t.Helper()
	if got, gok := ops.Get(b); got != o || gok != ok {
		t.Errorf("Get(% x): %v %v, not %v %v", b, got, gok, o, ok)
	}
}

func wantParse(t *testing.T, s string, o api.Op, ok bool) {
	t.Helper()
	if got, gok := ops.Parse(s); got != o || gok != ok {
		t.Errorf("Parse(%.200q): %v %v, not %v %v", s, got, gok, o, ok)
	}
}

// written are ops, their bytes and their words, written out, one at least of each kind.
var written = []struct {
	o    api.Op
	b    string
	text string
}{
	{api.Op{Kind: api.Submit, A: 1, B: 2, C: 3, D: 4, E: 5, F: 6}, "\x07\x01\x01\x02\x03\x04\x05\x06", "submit 1 2 3 4 5 6"},
	{api.Op{Kind: api.Submit}, "\x07\x01\x00\x00\x00\x00\x00\x00", "submit 0 0 0 0 0 0"},
	{api.Op{Kind: api.Submit, A: 127, B: 128, C: 16383, D: 16384, E: 999999, F: 1000000}, "\x07\x01\x7f\x80\x01\xff\x7f\x80\x80\x01\xbf\x84\x3d\xc0\x84\x3d", "submit 127 128 16383 16384 999999 1000000"},
	{api.Op{Kind: api.Cancel, A: 24}, "\x02\x02\x18", "cancel 24"},
	{api.Op{Kind: api.Target, A: 300}, "\x02\x03\xac\x02", "target 300"},
	{api.Op{Kind: api.Pause}, "\x01\x04", "pause"},
	{api.Op{Kind: api.Resume}, "\x01\x05", "resume"},
	{api.Op{Kind: api.Abort}, "\x01\x06", "abort"},
	{api.Op{Kind: api.Down, A: 5}, "\x02\x07\x05", "down 5"},
	{api.Op{Kind: api.Up, A: 0, B: 9}, "\x03\x08\x00\x09", "up 0 9"},
	{api.Op{Kind: api.Hold, A: 1, B: 3}, "\x03\x09\x01\x03", "hold 1 3"},
	{api.Op{Kind: api.Start, A: 10, B: 100}, "\x03\x0a\x0a\x64", "start 10 100"},
	{api.Op{Kind: api.Unhold, A: 1}, "\x02\x0b\x01", "unhold 1"},
	{api.Op{Kind: api.Drain, A: 2, B: 129}, "\x03\x0c\x02\x81\x01", "drain 2 129"},
	{api.Op{Kind: api.Saved, A: 3, B: 0}, "\x03\x0d\x03\x00", "saved 3 0"},
	{api.Op{Kind: api.Evict, A: 1000000}, "\x02\x0e\xc0\x84\x3d", "evict 1000000"},
	{api.Op{Kind: api.Done, A: 0}, "\x02\x0f\x00", "done 0"},
	{api.Op{Kind: api.Cordon, A: 4}, "\x02\x10\x04", "cordon 4"},
	{api.Op{Kind: api.Uncordon, A: 5}, "\x02\x11\x05", "uncordon 5"},
	{api.Op{Kind: api.Move, A: 6}, "\x02\x12\x06", "move 6"},
	{api.Op{Kind: api.Moved, A: 6, B: 2}, "\x03\x13\x06\x02", "moved 6 2"},
	{api.Op{Kind: api.Shrink, A: 8, B: 63}, "\x03\x14\x08\x3f", "shrink 8 63"},
	{api.Op{Kind: api.Newterm}, "\x01\x15", "newterm"},
}

// P8.1, P8.2, P8.3: ordinary ops of each kind, written out.
func TestWritten(t *testing.T) {
	seen := map[int]bool{}
	for _, c := range written {
		seen[c.o.Kind] = true
		if !ops.Right(c.o) {
			t.Errorf("%v isn't right", c.o)
		}
		if got := ops.Put(c.o); string(got) != c.b {
			t.Errorf("Put(%v): % x", c.o, got)
		}
		if got := ops.Text(c.o); got != c.text {
			t.Errorf("Text(%v): %q", c.o, got)
		}
		wantGet(t, []byte(c.b), c.o, true)
		wantParse(t, c.text, c.o, true)
	}
	if len(seen) != len(kinds) {
		t.Error("some kinds aren't written out:", len(seen))
	}
}

// P8.1: what is right, and its bytes.
func TestRight(t *testing.T) {
	for _, o := range rightOps() {
		if !isRight(o) {
			t.Fatalf("the test's own: %v", o)
		}
		if !ops.Right(o) {
			t.Errorf("%v isn't right", o)
		}
		if got := ops.Put(o); !bytes.Equal(got, bytesOf(o)) {
			t.Errorf("Put(%v): % x", o, got)
		}
	}
}

// P8.1, P8.2: what isn't right has no bytes and no words.
func TestWrong(t *testing.T) {
	for _, o := range wrongOps() {
		if isRight(o) {
			t.Fatalf("the test's own: %v", o)
		}
		if ops.Right(o) {
			t.Errorf("%v is right", o)
		}
		if got := ops.Put(o); len(got) != 0 {
			t.Errorf("Put(%v): % x", o, got)
		}
		if got := ops.Text(o); got != "" {
			t.Errorf("Text(%v): %q", o, got)
		}
	}
}

// P8.1: of each kind, and of those beside them, each number around the edges in each place.
func TestRightAroundEdges(t *testing.T) {
	for kind := -1; kind <= 23; kind++ {
		for at := range places {
			for _, edge := range edges {
				for n := edge - 3; n <= edge+3; n++ {
					numbers := make([]int, places)
					numbers[at] = n
					if o := op(kind, numbers...); ops.Right(o) != isRight(o) {
						t.Errorf("Right(%v): %v", o, ops.Right(o))
					}
				}
			}
		}
	}
}

// P8.1: bytes that are cut at each place, or have one more behind them, are no op's.
func TestGetCut(t *testing.T) {
	wantGet(t, nil, api.Op{}, false)
	wantGet(t, []byte{}, api.Op{}, false)
	for _, o := range rightOps() {
		b := bytesOf(o)
		wantGet(t, b, o, true)
		for k := range b {
			wantGet(t, b[:k], api.Op{}, false) // though the bytes go on in its spare room
			rest, ok := readBytes(b[k+1:])     // it may be another one's: 02 02 02 is, behind 07 01 ..
			wantGet(t, b[k+1:], rest, ok)
		}
		for _, more := range []byte{0, 1, b[len(b)-1], 127, 128, 255} {
			wantGet(t, append(b[:len(b):len(b)], more), api.Op{}, false)
		}
		wantGet(t, append(b[:len(b):len(b)], b...), api.Op{}, false)
		wantGet(t, append([]byte{0}, b...), api.Op{}, false)
	}
}

// P8.1: a list that is a number short of its kind's, or one or more too long, is no op's.
func TestGetCounts(t *testing.T) {
	for kind := range 24 {
		for count := range 300 {
			l := append([]int{kind}, slices.Repeat([]int{1}, count)...)
			o, ok := op(kind, l[1:]...), kind >= 1 && kind <= 21 && kinds[kind-1].has == count
			if !ok {
				o = api.Op{}
			}
			wantGet(t, listBytes(l...), o, ok)
			clear(l[1:])
			if ok {
				o = op(kind)
			}
			wantGet(t, listBytes(l...), o, ok)
		}
	}
	wantGet(t, []byte{0}, api.Op{}, false)
	wantGet(t, []byte{255, 255, 255, 255, 255, 255, 255, 15, 4}, api.Op{}, false)
	wantGet(t, []byte{255, 255, 255, 255, 255, 255, 255, 255, 255, 1, 4}, api.Op{}, false)
}

// P8.1: bytes of no kind, or with a number that no op has, are no op's.
func TestGetWrong(t *testing.T) {
	for _, o := range wrongOps() {
		for has := range places + 1 {
			l := append([]int{o.Kind}, numbersOf(o)[:has]...)
			if slices.Min(l) < 0 || slices.Max(l) > greatest || isRight(op(l[0], l[1:]...)) && kinds[l[0]-1].has == has {
				continue // it has no bytes, or they are another op's
			}
			wantGet(t, listBytes(l...), api.Op{}, false)
		}
	}
}

// P8.1: a number that is longer than it need be, or comes to a right one where high bits are left out.
func TestGetLong(t *testing.T) {
	wide := func(low byte, groups int, high byte) []byte { // low, and a bit at 7 * groups or above
		return append(append([]byte{low | 128}, bytes.Repeat([]byte{128}, groups-1)...), high)
	}
	var one [][]byte // which are not 1
	for groups := 1; groups < 12; groups++ {
		for _, high := range []byte{0, 1, 2, 8, 16, 127} {
			if groups > 2 || high == 0 {
				one = append(one, wide(1, groups, high))
			}
		}
	}
	for _, n := range one {
		wantGet(t, slices.Concat(n, []byte{4}), api.Op{}, false)
		wantGet(t, slices.Concat([]byte{1}, wide(4, len(n)-1, n[len(n)-1])), api.Op{}, false)
		for i, k := range kinds {
			for at := range k.has {
				ones := bytes.Repeat([]byte{1}, k.has)
				head := []byte{byte(1 + k.has), byte(i + 1)}
				wantGet(t, slices.Concat(head, ones[:at], n, ones[at+1:]), api.Op{}, false)
			}
		}
	}
}

// P8.1, P8.3: of all bytes of some kinds the op that the words say; what is read is what would be put.
func TestGetOfAll(t *testing.T) {
	read := 0
	look := func(b []byte) {
		o, ok := ops.Get(b)
		want, wok := readBytes(b)
		if o != want || ok != wok {
			t.Fatalf("Get(% x): %v %v, not %v %v", b, o, ok, want, wok)
		}
		if ok {
			read++
			if got := ops.Put(o); !bytes.Equal(got, b) {
				t.Fatalf("Put(%v): % x, not % x", o, got, b)
			}
		}
	}
	for i := range 1 << 16 {
		look([]byte{byte(i)})
		look([]byte{byte(i), byte(i >> 8)})
		for head := range byte(10) {
			look([]byte{head, byte(i), byte(i >> 8)})
		}
	}
	for i := range 1 << 16 { // the numbers of kinds that have one, two and six
		for _, kind := range []byte{0, 1, 2, 9, 15, 18, 20, 21, 22, 128} {
			look([]byte{2, kind, byte(i), byte(i >> 8), 61})
			look([]byte{3, kind, byte(i), byte(i >> 8)})
			look([]byte{7, kind, byte(i), byte(i >> 8), 1, 2, 3, 4})
		}
	}
	if read < 50000 {
		t.Error("too few were read:", read)
	}
}

// P8.2: the kinds' names, and none of others.
func TestName(t *testing.T) {
	for i, k := range kinds {
		if got := ops.Name(i + 1); got != k.name {
			t.Errorf("Name(%d): %q", i+1, got)
		}
	}
	for _, kind := range noKinds {
		if got := ops.Name(kind); got != "" {
			t.Errorf("Name(%d): %q", kind, got)
		}
	}
	for kind := -300; kind < 300; kind++ {
		if got := ops.Name(kind); (got != "") != (kind >= 1 && kind <= 21) {
			t.Errorf("Name(%d): %q", kind, got)
		}
	}
}

// P8.2: an op's words, and the op of words.
func TestWords(t *testing.T) {
	for _, o := range rightOps() {
		s := wordsOf(o)
		if got := ops.Text(o); got != s {
			t.Errorf("Text(%v): %q, not %q", o, got, s)
		}
		wantParse(t, s, o, true)
	}
}

// P8.2: words with too few or too many numbers are no op's.
func TestParseCounts(t *testing.T) {
	for i, k := range kinds {
		for count := range 12 {
			for _, n := range []int{0, 1, mostNum} {
				l := slices.Repeat([]int{n}, count)
				s := k.name + strings.Repeat(" "+strconv.Itoa(n), count)
				if count == k.has {
					wantParse(t, s, op(i+1, l...), true)
				} else {
					wantParse(t, s, api.Op{}, false)
				}
			}
		}
		wantParse(t, k.name+strings.Repeat(" 1", 1000), api.Op{}, false)
	}
}

// P8.2: words whose name is none are no op's.
func TestParseNames(t *testing.T) {
	for i, k := range kinds {
		ones := strings.Repeat(" 1", k.has)
		others := []string{"", "a", "0", "1", strconv.Itoa(i + 1), "submitted", "nothing", "crash", "tick", strings.ToUpper(k.name), strings.ToUpper(k.name[:1]) + k.name[1:], k.name[:1] + strings.ToUpper(k.name[1:2]) + k.name[2:], k.name + "s", k.name + "d", k.name + "0", k.name + "1", "un" + k.name, k.name + k.name, k.name + "\x00", "\x00" + k.name, "\ufeff" + k.name, k.name + "\u00a0", "\xff", strings.Replace(k.name, "s", "ſ", 1), strings.Replace(k.name, "o", "о", 1)}
		for at := range k.name {
			others = append(others, k.name[:at], k.name[at+1:], k.name[:at]+k.name[at+1:], k.name[:at]+" "+k.name[at:], k.name[:at]+"\xe9"+k.name[at+1:])
		}
		for _, name := range others {
			want, ok := readWords(name + ones) // one name may be another one with letters more or less
			wantParse(t, name+ones, want, ok)
			if ok && ops.Name(want.Kind) != name {
				t.Errorf("%q: %v", name, want)
			}
		}
	}
	for _, s := range []string{"unhold 1 3", "hold 1", "cordon 1 1", "un cordon 1", "moved 1", "move 1 2", "up", "upsubmit 1 1"} {
		wantParse(t, s, api.Op{}, false)
	}
}

// P8.2: words with a blank ahead, behind, two beside one another, or something else for one.
func TestParseBlanks(t *testing.T) {
	for _, o := range rightOps() {
		s := wordsOf(o)
		for _, blank := range []string{" ", "\t", "\n", "\r\n", "\v", "\f", "\x00", "\u00a0", "\u2003", ",", ";", "_", "."} {
			wantParse(t, blank+s, api.Op{}, false)
			wantParse(t, s+blank, api.Op{}, false)
			for at := range s {
				if s[at] != ' ' {
					continue
				}
				wantParse(t, s[:at]+blank+s[at:], api.Op{}, false)
				if blank != " " {
					wantParse(t, s[:at]+blank+s[at+1:], api.Op{}, false)
				}
			}
		}
	}
	for _, s := range []string{"", " ", "  ", "\n", "\x00", " 1", "1", "0", "\xff\xfe", "submit      ", "      "} {
		wantParse(t, s, api.Op{}, false)
	}
}

// P8.2: words in which a number isn't written as it must be, in each place.
func TestParseNumbers(t *testing.T) {
	numbers := []string{"", "-", "+", "-0", "+0", "-1", "+1", "--1", "- 1", "00", "01", "001", "0000000", "00000001", "01000000", "000000000000000000000000000001",
		"1000001", "1000002", "9999999", "10000000", "99999999", "2147483648", "4294967296", "4294967297", "9007199254740993", "9223372036854775807", "9223372036854775808",
		"18446744073709551615", "18446744073709551616", "18446744073709551617", "18446744073709551623", "340282366920938463463374607431768211457", "1" + strings.Repeat("0", 300), strings.Repeat("9", 3000),
		"a", "1a", "a1", "x", "0x1", "0X1", "0b1", "0o1", "1_0", "1_000", "1,000", "1.0", "1.", ".1", "1e3", "1E3", "1e0", "0.0", "Inf", "NaN", "nil", "true", "one", "'1'", "\"1\"", "1\x00", "\x001", "\xff", "1\xff", "١", "１", "²", "1\u0301", "−1", "½"}
	for _, k := range kinds {
		for at := range k.has {
			for _, other := range []string{"0", "1", "1000000"} { // beside it
				for _, n := range numbers {
					words := slices.Repeat([]string{other}, k.has)
					words[at] = n
					wantParse(t, k.name+" "+strings.Join(words, " "), api.Op{}, false)
				}
			}
		}
		for _, n := range numbers[1:] {
			wantParse(t, k.name+" "+n+strings.Repeat(" 1", k.has), api.Op{}, false)
			wantParse(t, k.name+strings.Repeat(" 1", k.has)+" "+n, api.Op{}, false)
			wantParse(t, k.name+n+strings.Repeat(" 1", k.has), api.Op{}, false)
		}
	}
}

// P8.2, P8.3: of words in which a byte was put, left out or made another one, the op that the words say; what is read is what would be told.
func TestParseOfMany(t *testing.T) {
	read := 0
	look := func(s string) {
		o, ok := ops.Parse(s)
		want, wok := readWords(s)
		if o != want || ok != wok {
			t.Fatalf("Parse(%q): %v %v, not %v %v", s, o, ok, want, wok)
		}
		if ok {
			read++
			if got := ops.Text(o); got != s {
				t.Fatalf("Text(%v): %q, not %q", o, got, s)
			}
		}
	}
	for i, k := range kinds {
		for _, l := range [][]int{{0, 1, 2, 3, 4, 5}, {mostNum, 0, mostNum, 10, 0, mostNum}, {10, 100, 999999, 1, 1, 0}} {
			s := wordsOf(op(i+1, l[:k.has]...))
			for at := range len(s) + 1 {
				for c := range 256 {
					look(s[:at] + string([]byte{byte(c)}) + s[at:])
					if at < len(s) {
						look(s[:at] + string([]byte{byte(c)}) + s[at+1:])
					}
				}
				look(s[:at])
				look(s[at:])
				if at < len(s) {
					look(s[:at] + s[at+1:])
				}
			}
		}
	}
	if read < 3000 {
		t.Error("too few were read:", read)
	}
}

// P8.2: of all texts of few signs the op that the words say.
func TestParseOfAll(t *testing.T) {
	for _, name := range []string{"pause", "done", "up", "hold"} {
		for i := range 1 << 15 {
			s := name
			for k := range 5 {
				if c := " 019+-_"[i>>(3*k)&7:]; c != "" {
					s += c[:1]
				}
			}
			want, ok := readWords(s)
			wantParse(t, s, want, ok)
		}
	}
}

// P8.3: what is put, or told, is read again, and no two ops have the same.
func TestReadAgain(t *testing.T) {
	all := map[string]api.Op{}
	for _, o := range rightOps() {
		b, s := ops.Put(o), ops.Text(o)
		wantGet(t, b, o, true)
		wantParse(t, s, o, true)
		for _, x := range []string{string(b), s} {
			if other, ok := all[x]; ok && other != o {
				t.Errorf("%v and %v: %q", o, other, x)
			}
			all[x] = o
		}
	}
	for n := range mostNum + 1 {
		o := op(21-n%21, []int{n, n / 2, n, n, 0, n}[:kinds[20-n%21].has]...)
		got, ok := ops.Get(ops.Put(o))
		again, aok := ops.Parse(ops.Text(o))
		if got != o || again != o || !ok || !aok {
			t.Fatalf("%v: %v %v, %v %v", o, got, ok, again, aok)
		}
	}
}

// Rule 4: bytes that are handed in stay as they are, their spare room too.
func TestHandedIn(t *testing.T) {
	for _, c := range written {
		whole := append([]byte(c.b), 7, 7, 7, 7, 7, 7, 7, 7, 7, 7)
		want := bytes.Clone(whole)
		wantGet(t, whole[:len(c.b)], c.o, true)
		wantGet(t, whole[:len(c.b)-1], api.Op{}, false)
		if !bytes.Equal(whole, want) {
			t.Errorf("% x", whole)
		}
	}
}

// Rules 4 and 6: an answer is new memory, its spare room too, and the same each time.
func TestNewMemory(t *testing.T) {
	for _, c := range written {
		first := ops.Put(c.o)
		first = first[:cap(first)]
		for i := range first {
			first[i] = 99
		}
		second := ops.Put(c.o)
		if string(second) != c.b {
			t.Errorf("Put(%v): % x", c.o, second)
		}
		second = second[:cap(second)]
		for i := range first {
			first[i] = 98
		}
		if string(second[:len(c.b)]) != c.b || bytes.Contains(second, []byte{98}) {
			t.Errorf("Put(%v): % x", c.o, second)
		}
		wantGet(t, []byte(c.b), c.o, true)
		wantParse(t, c.text, c.o, true)
	}
}
