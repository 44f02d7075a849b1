package sum_test

import (
	"bytes"
	"hash/crc32"
	"math"
	"strings"
	"testing"

	"dunnage/sum"
)

const last = 1<<32 - 1 // the greatest sum

// ofZero and ofLast are the four bytes whose sum is 0, and 2^32 - 1.
var (
	ofZero = []byte{0x9d, 0x0a, 0xd9, 0x6d}
	ofLast = []byte{255, 255, 255, 255}
)

// bodies are bytes of many lengths, and of all kinds.
func bodies() [][]byte {
	l := [][]byte{nil, {}, {0}, {1}, {127}, {128}, {255}, []byte("a"), []byte("123456789"), []byte("žluťoučký kůň"), ofZero, ofLast}
	for _, n := range []int{2, 3, 4, 5, 7, 8, 9, 31, 32, 33, 255, 256, 257, 4095, 4096, 4097, 70000} {
		l = append(l, make([]byte, n), bytes.Repeat([]byte{255}, n), mixed(n))
	}
	return l
}

// mixed is bytes of which each value comes, in no plain order.
func mixed(n int) []byte {
	b := make([]byte, n)
	for i := range b {
		b[i] = byte(i*i*7 + i*13 + i>>8 + 5)
	}
	return b
}

// noSums are numbers that aren't from 0 to 2^32 - 1.
func noSums() []int {
	return []int{-1, -2, -255, -last, -last - 1, math.MinInt32, math.MinInt, math.MinInt + 1, last + 1, last + 2, 1 << 33, 1<<33 + 5, 0xcbf43926 + 1<<32, 1 << 62, math.MaxInt - last, math.MaxInt}
}

// wordsSum is the sum as the document's words say it, by halves and remainders.
func wordsSum(b []byte) int {
	n := last
	for _, c := range b {
		n ^= int(c)
		for range 8 {
			odd := n%2 == 1
			n /= 2
			if odd {
				n ^= 0xedb88320
			}
		}
	}
	return last - n
}

// four is the low 32 bits of a number from 0 on, the highest byte first.
func four(n int) []byte {
	n %= 1 << 32
	return []byte{byte(n / (1 << 24)), byte(n / (1 << 16) % 256), byte(n / 256 % 256), byte(n % 256)}
}

func sealed(b []byte) []byte {
	return append(bytes.Clone(b), four(wordsSum(b))...)
}

func wantIs(t *testing.T, b []byte, want bool) {
	t.Helper()
	if got := sum.Is(b); got != want {
		t.Errorf("Is(% .40x), %d bytes: %v", b, len(b), got)
	}
}

// P2.1: sums written out, and those of the words, and of the library.
func TestOf(t *testing.T) {
	for s, want := range map[string]int{
		"": 0, "123456789": 0xcbf43926, "a": 0xe8b7be43, "abc": 0x352441c2, "\x00": 0xd202ef8d, "\xff": 0xff000000,
		"\x00\x00\x00\x00": 0x2144df1c, string(ofZero): 0, string(ofLast): last,
		"The quick brown fox jumps over the lazy dog": 0x414fa339,
	} {
		if got := sum.Of([]byte(s)); got != want {
			t.Errorf("Of(%q): %x, not %x", s, got, want)
		}
	}
	if sum.Of(nil) != 0 || sum.Of([]byte{}) != 0 || sum.Of(make([]byte, 0, 9)) != 0 {
		t.Error("of nothing")
	}
	for _, b := range bodies() {
		got := sum.Of(b)
		if got != wordsSum(b) || got != int(crc32.ChecksumIEEE(b)) {
			t.Errorf("Of(% .40x), %d bytes: %x, not %x", b, len(b), got, wordsSum(b))
		}
	}
	for i := range 1 << 16 {
		b := []byte{byte(i), byte(i >> 8)}
		if got := sum.Of(b); got != wordsSum(b) {
			t.Fatalf("Of(% x): %x", b, got)
		}
	}
}

// P2.1: a sum goes on by the bytes behind those that it was told of.
func TestMore(t *testing.T) {
	for _, head := range bodies() {
		for _, b := range [][]byte{nil, {}, {0}, {255}, []byte("b"), ofZero, ofLast, mixed(40)} {
			want := wordsSum(append(bytes.Clone(head), b...))
			if got := sum.More(wordsSum(head), b); got != want {
				t.Errorf("More(%x, % x): %x, not %x", wordsSum(head), b, got, want)
			}
		}
	}
	for _, n := range []int{0, 1, 255, 256, 1<<31 - 1, 1 << 31, 0xcbf43926, last - 1, last} {
		if got := sum.More(n, nil); got != n {
			t.Errorf("More(%x, nil): %x", n, got)
		}
		for _, b := range bodies() {
			if got := sum.More(n, b); got != int(crc32.Update(uint32(n), crc32.IEEETable, b)) {
				t.Errorf("More(%x, % .40x): %x", n, b, got)
			}
		}
	}
}

// P2.1: 0 of what is no sum, whatever bytes are behind.
func TestMoreOfNone(t *testing.T) {
	for _, n := range noSums() {
		for _, b := range bodies() {
			if got := sum.More(n, b); got != 0 {
				t.Errorf("More(%d, % .40x): %x", n, b, got)
			}
		}
	}
}

// P2.2: the low 32 bits, the highest byte first, of any number.
func TestPut(t *testing.T) {
	for _, c := range []struct {
		n    int
		want []byte
	}{
		{0, []byte{0, 0, 0, 0}}, {1, []byte{0, 0, 0, 1}}, {255, []byte{0, 0, 0, 255}}, {256, []byte{0, 0, 1, 0}}, {65535, []byte{0, 0, 255, 255}},
		{1 << 16, []byte{0, 1, 0, 0}}, {1 << 24, []byte{1, 0, 0, 0}}, {0x01020304, []byte{1, 2, 3, 4}}, {1<<31 - 1, []byte{127, 255, 255, 255}},
		{1 << 31, []byte{128, 0, 0, 0}}, {0xcbf43926, []byte{0xcb, 0xf4, 0x39, 0x26}}, {last, []byte{255, 255, 255, 255}},
		{last + 1, []byte{0, 0, 0, 0}}, {last + 2, []byte{0, 0, 0, 1}}, {0x1234567890, []byte{0x34, 0x56, 0x78, 0x90}}, {1 << 62, []byte{0, 0, 0, 0}},
		{math.MaxInt, []byte{255, 255, 255, 255}}, {-1, []byte{255, 255, 255, 255}}, {-2, []byte{255, 255, 255, 254}}, {-256, []byte{255, 255, 255, 0}},
		{-last, []byte{0, 0, 0, 1}}, {-last - 1, []byte{0, 0, 0, 0}}, {math.MinInt32, []byte{128, 0, 0, 0}}, {math.MinInt, []byte{0, 0, 0, 0}}, {math.MinInt + 1, []byte{0, 0, 0, 1}},
	} {
		if got := sum.Put(c.n); !bytes.Equal(got, c.want) {
			t.Errorf("Put(%d): % x, not % x", c.n, got, c.want)
		}
	}
	for i := range 63 {
		for _, n := range []int{1<<i - 1, 1 << i, 1<<i + 1, 0x5bd1e995 << (i / 2)} {
			if got := sum.Put(n); !bytes.Equal(got, four(n)) {
				t.Errorf("Put(%d): % x, not % x", n, got, four(n))
			}
		}
	}
}

// P2.2: the last four bytes are the sum of those ahead, or they aren't.
func TestIs(t *testing.T) {
	wantIs(t, []byte{'a', 0xe8, 0xb7, 0xbe, 0x43}, true)
	wantIs(t, []byte("123456789\xcb\xf4\x39\x26"), true)
	wantIs(t, []byte("123456789\x26\x39\xf4\xcb"), false)
	wantIs(t, []byte("123456789"), false)
	wantIs(t, []byte{0, 0, 0, 0}, true)
	wantIs(t, ofZero, false)
	wantIs(t, ofLast, false)
	wantIs(t, append(bytes.Clone(ofZero), 0, 0, 0, 0), true)
	wantIs(t, append(bytes.Clone(ofLast), ofLast...), true)
	wantIs(t, append(bytes.Clone(ofZero), ofLast...), false)
	wantIs(t, append(bytes.Clone(ofLast), 0, 0, 0, 0), false)
	for i := range 1 << 16 {
		b := []byte{byte(i), 0, 0, byte(i >> 8)}
		if i == 0 {
			continue
		}
		wantIs(t, b, false)
		wantIs(t, []byte{0, byte(i), byte(i >> 8), 0}, false)
	}
}

// P2.2: of fewer than four bytes, no.
func TestIsOfFew(t *testing.T) {
	wantIs(t, nil, false)
	wantIs(t, []byte{}, false)
	for n := range 4 {
		for _, c := range []byte{0, 1, 255} {
			wantIs(t, bytes.Repeat([]byte{c}, n), false)
		}
		wantIs(t, make([]byte, n, 16), false) // though noughts go on in its spare room
		wantIs(t, four(wordsSum(nil))[:n], false)
	}
	for i := range 1 << 16 {
		wantIs(t, []byte{byte(i), byte(i >> 8)}, false)
		wantIs(t, []byte{0, byte(i), byte(i >> 8)}, false)
	}
}

// P2.2: bytes that end with another sum.
func TestIsOfAnother(t *testing.T) {
	for _, b := range bodies() {
		n := wordsSum(b)
		if len(b) > 5000 {
			continue
		}
		behind := func(l []byte) []byte { return append(bytes.Clone(b), l...) }
		for _, other := range []int{n ^ 1, n ^ 1<<31, n ^ 1<<16, (n + 1) & last, (n - 1) & last, last - n, wordsSum(behind([]byte{0})), wordsSum(behind(four(n)))} {
			wantIs(t, behind(four(other)), other == n)
		}
		l := four(n)
		wantIs(t, behind(l), true)
		wantIs(t, behind(l[:3]), false)
		wantIs(t, behind(append(l, 0)), false)
		wantIs(t, append(four(n), b...), len(b) == 0 || bytes.Equal(b, ofLast)) // the sum ahead instead; of ofLast both are the same bytes
	}
}

// P2.3: a sum of parts is that of the whole, wherever it is parted.
func TestParts(t *testing.T) {
	for _, b := range bodies() {
		if len(b) > 300 {
			continue
		}
		whole := sum.Of(b)
		each := sum.Of(nil)
		for i := range b {
			each = sum.More(each, b[i:i+1])
			if got := sum.More(sum.Of(b[:i]), b[i:]); got != whole {
				t.Errorf("% .40x at %d: %x, not %x", b, i, got, whole)
			}
			mid := i + (len(b)-i)/2
			if got := sum.More(sum.More(sum.Of(b[:i]), b[i:mid]), b[mid:]); got != whole {
				t.Errorf("% .40x at %d and %d: %x, not %x", b, i, mid, got, whole)
			}
		}
		if each != whole || sum.More(whole, nil) != whole || sum.More(sum.Of(nil), b) != whole {
			t.Errorf("% .40x: %x, not %x", b, each, whole)
		}
	}
}

// P2.3: bytes with their sum behind are so.
func TestSealed(t *testing.T) {
	for _, b := range bodies() {
		got := append(bytes.Clone(b), sum.Put(sum.Of(b))...)
		if !bytes.Equal(got, sealed(b)) {
			t.Errorf("% .40x with % x behind", b, got[len(b):])
		}
		wantIs(t, got, true)
	}
}

// P2.3: one byte of them turned, to whatever else, they aren't so.
func TestTurned(t *testing.T) {
	for _, b := range bodies() {
		l := sealed(b)
		if len(l) > 300 {
			continue
		}
		for i := range l {
			for x := 1; x < 256; x++ {
				l[i] ^= byte(x)
				if sum.Is(l) {
					t.Errorf("% .40x: byte %d turned by %x", l, i, x)
				}
				l[i] ^= byte(x)
			}
		}
		wantIs(t, l, true)
	}
	l := sealed(mixed(70000))
	for _, i := range []int{0, 1, 255, 256, 4096, 65535, 65536, 69998, 69999, 70000, 70003} {
		l[i] ^= 16
		wantIs(t, l, false)
		l[i] ^= 16
	}
}

// Rule 4: what is handed in stays as it is, its spare room too, and isn't kept.
func TestHandedIn(t *testing.T) {
	for _, b := range [][]byte{nil, []byte("a"), []byte("123456789"), mixed(300)} {
		whole := append(sealed(b), strings.Repeat("\x07", 20)...)
		was := bytes.Clone(whole)
		l := whole[:len(b)+4]
		sum.Of(l)
		sum.Of(l[:len(b)])
		sum.More(5, l)
		sum.More(-1, l)
		sum.Is(l)
		sum.Is(l[:len(b)])
		sum.Is(l[:3])
		if !bytes.Equal(whole, was) {
			t.Errorf("% .40x", whole)
		}
	}
}

// Rule 4: an answer is new memory, its spare room too.
func TestNewMemory(t *testing.T) {
	for _, n := range []int{0, 1, 0xcbf43926, last, -1, 0x1234567890} {
		first := sum.Put(n)
		want := bytes.Clone(first)
		second := sum.Put(n)
		spare := first[:cap(first)]
		for i := range spare {
			spare[i] = 99
		}
		if !bytes.Equal(second, want) || !bytes.Equal(sum.Put(n), want) {
			t.Errorf("Put(%d): % x, % x, not % x", n, second, sum.Put(n), want)
		}
	}
}

// Rule 6: an answer doesn't hang on what was asked ahead.
func TestAskedAgain(t *testing.T) {
	a, b := []byte("123456789"), mixed(50)
	for range 3 {
		if sum.Of(a) != 0xcbf43926 || sum.More(-1, b) != 0 || sum.More(0, a) != 0xcbf43926 || !sum.Is(sealed(b)) || sum.Is(b) {
			t.Error("another answer than ahead")
		}
	}
}
