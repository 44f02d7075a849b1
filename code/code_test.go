package code_test

import (
	"bytes"
	"math"
	"slices"
	"strings"
	"testing"

	"dunnage/code"
)

const last = 1<<53 - 1 // the greatest number

// numbers are those around each place where one byte more is needed, and some between.
func numbers() []int {
	l := []int{0, 1, 2, 15, 16, 300, 1000000, 1 << 32, 1<<52 + 12345, last - 1, last}
	for i := 7; i < 53; i += 7 {
		l = append(l, 1<<i-1, 1<<i, 1<<i+1)
	}
	return l
}

func noNumbers() []int {
	return []int{-1, -2, -128, -last, math.MinInt, last + 1, last + 2, 1 << 56, 1 << 62, math.MaxInt}
}

func texts() []string {
	l := []string{"", "a", "ab", "\x00", "\xff\xfe\x80", "žluťoučký kůň"}
	for _, n := range []int{126, 127, 128, 129, 300, 16383, 16384} {
		l = append(l, strings.Repeat("x", n))
	}
	return l
}

func lists() [][]int {
	l := [][]int{nil, {}, {0}, {5, 300, 0}, {last}, {127, 128, 127, last, 0}, numbers()}
	for _, n := range []int{127, 128, 300} {
		l = append(l, slices.Repeat([]int{n}, n))
	}
	return l
}

// numBytes makes a number's bytes as the document's words say, by halves and remainders.
func numBytes(n int) []byte {
	var b []byte
	for b = append(b, byte(n%128)); n >= 128; b = append(b, byte(n%128)) {
		b[len(b)-1] += 128
		n /= 128
	}
	return b
}

// numAt is the number that stands at the start of bytes, asked of each beginning of them.
func numAt(b []byte) (int, int, bool) {
	n := 0
	for i := 0; i < len(b) && i < 8; i++ {
		n += int(b[i]%128) << (7 * i)
		if n <= last && bytes.Equal(b[:i+1], numBytes(n)) {
			return n, i + 1, true
		}
	}
	return 0, 0, false
}

func wantNum(t *testing.T, b []byte, at, n, next int, ok bool) {
	t.Helper()
	if gn, gnext, gok := code.GetNum(b, at); gn != n || gnext != next || gok != ok {
		t.Errorf("GetNum(% x, %d): %d %d %v, not %d %d %v", b, at, gn, gnext, gok, n, next, ok)
	}
}

func wantText(t *testing.T, b []byte, at int, s string, next int, ok bool) {
	t.Helper()
	if gs, gnext, gok := code.GetText(b, at); gs != s || gnext != next || gok != ok {
		t.Errorf("GetText(% x, %d): %q %d %v, not %q %d %v", b, at, gs, gnext, gok, s, next, ok)
	}
}

func wantList(t *testing.T, b []byte, at, most int, l []int, next int, ok bool) {
	t.Helper()
	if gl, gnext, gok := code.GetList(b, at, most); !slices.Equal(gl, l) || gnext != next || gok != ok {
		t.Errorf("GetList(% x, %d, %d): %d %d %v, not %d %d %v", b, at, most, gl, gnext, gok, l, next, ok)
	}
}

// P1.1: a number's bytes, written out, and as the words say.
func TestNum(t *testing.T) {
	for _, c := range []struct {
		n int
		b []byte
	}{
		{0, []byte{0}}, {1, []byte{1}}, {127, []byte{127}}, {128, []byte{128, 1}}, {129, []byte{129, 1}}, {300, []byte{0xac, 2}},
		{16383, []byte{255, 127}}, {16384, []byte{128, 128, 1}}, {1 << 49, []byte{128, 128, 128, 128, 128, 128, 128, 1}},
		{last, []byte{255, 255, 255, 255, 255, 255, 255, 15}},
	} {
		if got := code.Num(c.n); !bytes.Equal(got, c.b) {
			t.Errorf("Num(%d): % x", c.n, got)
		}
	}
	for _, n := range numbers() {
		if got := code.Num(n); !bytes.Equal(got, numBytes(n)) {
			t.Errorf("Num(%d): % x", n, got)
		}
	}
}

// P1.1: what is no number has no bytes.
func TestNumOfNone(t *testing.T) {
	for _, n := range noNumbers() {
		if got := code.Num(n); len(got) != 0 {
			t.Errorf("Num(%d): % x", n, got)
		}
	}
}

// P1.1: a text is the number of its bytes, and these.
func TestText(t *testing.T) {
	if got := code.Text("ab"); !bytes.Equal(got, []byte{2, 'a', 'b'}) {
		t.Errorf("% x", got)
	}
	if got := code.Text(""); !bytes.Equal(got, []byte{0}) {
		t.Errorf("% x", got)
	}
	for _, s := range texts() {
		if got := code.Text(s); !bytes.Equal(got, append(numBytes(len(s)), s...)) {
			t.Errorf("Text(%q): % x", s, got)
		}
	}
}

// P1.1: a list is how many numbers there are, and these.
func TestList(t *testing.T) {
	if got := code.List(); !bytes.Equal(got, []byte{0}) {
		t.Errorf("% x", got)
	}
	if got := code.List(5, 300, 0); !bytes.Equal(got, []byte{3, 5, 0xac, 2, 0}) {
		t.Errorf("% x", got)
	}
	for _, l := range lists() {
		want := numBytes(len(l))
		for _, n := range l {
			want = append(want, numBytes(n)...)
		}
		if got := code.List(l...); !bytes.Equal(got, want) {
			t.Errorf("List(%d): % x", l, got)
		}
	}
}

// P1.1: a list of which one is no number has no bytes, wherever that one stands.
func TestListOfNone(t *testing.T) {
	for _, n := range noNumbers() {
		for _, l := range [][]int{{n}, {n, 1}, {1, n}, {1, n, 2}, {n, n}} {
			if got := code.List(l...); len(got) != 0 {
				t.Errorf("List(%d): % x", l, got)
			}
		}
	}
}

// P1.2: the number at a place, and the place behind it.
func TestGetNum(t *testing.T) {
	b := []byte{7, 0xac, 2, 0, 255, 255, 255, 255, 255, 255, 255, 15, 127}
	wantNum(t, b, 0, 7, 1, true)
	wantNum(t, b, 1, 300, 3, true)
	wantNum(t, b, 2, 2, 3, true)
	wantNum(t, b, 3, 0, 4, true)
	wantNum(t, b, 4, last, 12, true)
	wantNum(t, b, 12, 127, 13, true)
}

// P1.2: no number: the bytes end ahead, it isn't as short as may be, it is 2^53 or more.
func TestGetNumOfNone(t *testing.T) {
	for _, n := range numbers() {
		b := numBytes(n)
		for k := range b {
			wantNum(t, b[:k], 0, 0, 0, false) // though the bytes go on in its spare room
		}
		long := slices.Clone(b)
		for range 9 { // a group of 0 more, and more of them
			long[len(long)-1] |= 128
			long = append(long, 0)
			wantNum(t, long, 0, 0, 0, false)
		}
	}
	high := []byte{255, 255, 255, 255, 255, 255, 255}
	for c := range 256 {
		n, next, ok := 0, 0, c > 0 && c < 16
		if ok {
			n, next = c<<49+1<<49-1, 8
		}
		wantNum(t, append(high[:7:7], byte(c)), 0, n, next, ok)
	}
	for k := range 12 { // groups without end, and 2^(7k) of more bytes than a number has
		wantNum(t, slices.Repeat([]byte{128}, k), 0, 0, 0, false)
		wantNum(t, slices.Repeat([]byte{255}, k), 0, 0, 0, false)
		wantNum(t, append(slices.Repeat([]byte{128}, 8+k), 1), 0, 0, 0, false)
		wantNum(t, append(slices.Repeat([]byte{255}, 8+k), 127), 0, 0, 0, false)
	}
	wantNum(t, []byte{128, 128, 128, 128, 128, 128, 128, 16}, 0, 0, 0, false) // just 2^53
}

// P1.2: of all bytes of some kinds the number that the words say.
func TestGetNumOfAll(t *testing.T) {
	kinds := []byte{0, 1, 15, 16, 127, 128, 129, 255}
	for i := range 1 << 15 {
		b := make([]byte, 5)
		for k := range b {
			b[k] = kinds[i>>(3*k)&7]
		}
		for k := range 6 {
			n, next, ok := numAt(b[:k])
			wantNum(t, b[:k], 0, n, next, ok)
		}
	}
	for i := range 1 << 16 {
		b := []byte{byte(i), byte(i >> 8)}
		n, next, ok := numAt(b)
		wantNum(t, b, 0, n, next, ok)
	}
}

// P1.2: places that aren't from 0 on, or are where the bytes end, or behind that.
func TestPlaces(t *testing.T) {
	for _, b := range [][]byte{nil, {}, {0}, {1}, {0, 0, 0}, {1, 1, 1, 1}} {
		for _, at := range []int{math.MinInt, math.MinInt + 1, -len(b) - 1, -len(b), -2, -1, len(b), len(b) + 1, len(b) + 8, math.MaxInt - 8, math.MaxInt - 1, math.MaxInt} {
			if at == 0 && len(b) > 0 {
				continue
			}
			wantNum(t, b, at, 0, 0, false)
			wantText(t, b, at, "", 0, false)
			wantList(t, b, at, 10, nil, 0, false)
		}
	}
	wantNum(t, make([]byte, 3, 9), 3, 0, 0, false)
	wantText(t, make([]byte, 3, 9), 3, "", 0, false)
	wantList(t, make([]byte, 3, 9), 3, 9, nil, 0, false)
}

// P1.2: the text at a place; none, if the bytes end ahead, or its length is no number.
func TestGetText(t *testing.T) {
	b := []byte{9, 2, 'a', 'b', 'c', 0}
	wantText(t, b, 1, "ab", 4, true)
	wantText(t, b, 5, "", 6, true)
	wantText(t, b, 0, "", 0, false)
	wantText(t, []byte{1, 0xff}, 0, "\xff", 2, true)
	for _, s := range texts() {
		b := code.Text(s)
		for _, k := range []int{0, 1, len(b) / 2, len(b) - 1} {
			if k < len(b) {
				wantText(t, b[:k], 0, "", 0, false)
			}
		}
	}
	for _, n := range []int{3, 127, 128, 1 << 31, 1 << 32, last} {
		wantText(t, append(numBytes(n), 'a', 'b'), 0, "", 0, false)
	}
	for _, head := range [][]byte{{0x82, 0}, {0x80, 0}, {0x80}, {0x82, 0x80, 0}, {255, 255, 255, 255, 255, 255, 255, 16}, {255, 255, 255, 255, 255, 255, 255, 255, 255, 1}} {
		wantText(t, append(head, "ab"...), 0, "", 0, false)
	}
}

// P1.2: the list at a place; none, if its count or one of its numbers is none, or the bytes end ahead.
func TestGetList(t *testing.T) {
	b := []byte{9, 3, 5, 0xac, 2, 0, 0}
	wantList(t, b, 1, 3, []int{5, 300, 0}, 6, true)
	wantList(t, b, 6, 0, nil, 7, true)
	wantList(t, b, 2, 9, nil, 0, false)
	for _, l := range lists() {
		b := code.List(l...)
		for k := range b {
			wantList(t, b[:k], 0, len(l), nil, 0, false)
		}
	}
	for _, n := range []int{3, 127, 128, 1 << 31, 1 << 40, last} {
		wantList(t, append(numBytes(n), 1, 2), 0, math.MaxInt, nil, 0, false)
	}
	for _, bad := range [][]byte{{2, 0x80, 0, 1}, {2, 1, 0x80, 0}, {2, 1, 0x80}, {0x82, 0, 1, 2}, {0x80, 0}, {0x80}, {1, 255, 255, 255, 255, 255, 255, 255, 16}, {1, 128, 128, 128, 128, 128, 128, 128, 128, 1}, {3, 0x80, 0x80, 0x80}} {
		wantList(t, bad, 0, 9, nil, 0, false)
	}
}

// P1.2: a list has at most most numbers: just as many, and one more.
func TestGetListMost(t *testing.T) {
	for _, l := range lists() {
		b := code.List(l...)
		for _, most := range []int{len(l), len(l) + 1, last, math.MaxInt} {
			wantList(t, b, 0, most, l, len(b), true)
		}
		for _, most := range []int{len(l) - 1, len(l) - 2, -1, math.MinInt} {
			wantList(t, b, 0, most, nil, 0, false)
		}
	}
}

// P1.3: what is put is read again, with the place behind it, whatever stands ahead and behind.
func TestReadAgain(t *testing.T) {
	around := [][]byte{nil, {0}, {1}, {127}, {128}, {255}, {128, 0}, bytes.Repeat([]byte{255}, 20)}
	for _, head := range around {
		for _, tail := range around {
			laid := func(b []byte) []byte { return slices.Concat(head, b, tail) }
			for _, n := range numbers() {
				b := code.Num(n)
				wantNum(t, laid(b), len(head), n, len(head)+len(b), true)
			}
			for _, s := range texts() {
				b := code.Text(s)
				wantText(t, laid(b), len(head), s, len(head)+len(b), true)
			}
			for _, l := range lists() {
				b := code.List(l...)
				wantList(t, laid(b), len(head), len(l), l, len(head)+len(b), true)
			}
		}
	}
}

// P1.3: what is read is what would be put.
func TestPutAgain(t *testing.T) {
	kinds := []byte{0, 1, 2, 3, 127, 128, 129, 255}
	read := 0
	for i := range 1 << 15 {
		b := make([]byte, 5)
		for k := range b {
			b[k] = kinds[i>>(3*k)&7]
		}
		for at := range b {
			if n, next, ok := code.GetNum(b, at); ok {
				read++
				if !bytes.Equal(code.Num(n), b[at:next]) {
					t.Fatalf("% x at %d: number %d", b, at, n)
				}
			}
			if s, next, ok := code.GetText(b, at); ok {
				read++
				if !bytes.Equal(code.Text(s), b[at:next]) {
					t.Fatalf("% x at %d: text %q", b, at, s)
				}
			}
			if l, next, ok := code.GetList(b, at, 4); ok {
				read++
				if !bytes.Equal(code.List(l...), b[at:next]) {
					t.Fatalf("% x at %d: list %d", b, at, l)
				}
			}
		}
	}
	if read < 1<<15 {
		t.Error("too few were read:", read)
	}
}

// Rule 4: what is handed in stays as it is, its spare room too, and isn't kept.
func TestHandedIn(t *testing.T) {
	l := append(make([]int, 0, 9), 5, 300, 0)
	first := code.List(l...)
	if !slices.Equal(l[:9], []int{5, 300, 0, 0, 0, 0, 0, 0, 0}) {
		t.Error(l[:9])
	}
	l[0] = 6
	if !bytes.Equal(first, []byte{3, 5, 0xac, 2, 0}) {
		t.Error(first)
	}
	whole := []byte{2, 'a', 'b', 7, 7, 7, 7, 7, 7}
	b := whole[:4]
	code.GetNum(b, 3)
	s, _, _ := code.GetText(b, 0)
	got, _, _ := code.GetList(b, 0, 9)
	if !bytes.Equal(whole, []byte{2, 'a', 'b', 7, 7, 7, 7, 7, 7}) {
		t.Error(whole)
	}
	copy(whole, "\x02xyzxyz")
	if s != "ab" || !slices.Equal(got, []int{'a', 'b'}) {
		t.Error(s, got)
	}
}

// Rule 4: an answer is new memory, its spare room too.
func TestNewMemory(t *testing.T) {
	spoil := func(b []byte) {
		b = b[:cap(b)]
		for i := range b {
			b[i] = 99
		}
	}
	for _, put := range []func() []byte{
		func() []byte { return code.Num(0) },
		func() []byte { return code.Num(300) },
		func() []byte { return code.Text("") },
		func() []byte { return code.Text("abc") },
		func() []byte { return code.List() },
		func() []byte { return code.List(1, 2, 3) },
	} {
		first := put()
		want := bytes.Clone(first)
		spoil(first)
		second := put()
		spoil(first)
		if !bytes.Equal(second, want) {
			t.Errorf("% x, not % x", second, want)
		}
	}
	b := []byte{2, 5, 6}
	first, _, _ := code.GetList(b, 0, 2)
	second, _, _ := code.GetList(b, 0, 2)
	first[0], first[1] = 8, 9
	if !slices.Equal(second, []int{5, 6}) || !bytes.Equal(b, []byte{2, 5, 6}) {
		t.Error(second, b)
	}
}
