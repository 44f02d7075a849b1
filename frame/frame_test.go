package frame_test

import (
	"bytes"
	"hash/crc32"
	"math"
	"slices"
	"testing"

	"dunnage/frame"
)

const (
	most = 4000 // bytes of a payload
	tail = 5    // bytes of a frame behind its payload
)

// sizes are those around each end of what payloads may have, around each place where their number needs one byte more, and some between.
var sizes = []int{1, 2, 3, 4, 5, 7, 8, 126, 127, 128, 129, 130, 255, 256, 257, 300, 3999, 4000}

// mixed is bytes of which each value comes, in no plain order.
func mixed(n int) []byte {
	b := make([]byte, n)
	for i := range b {
		b[i] = byte(i*i*7 + i*13 + i>>8 + 5)
	}
	return b
}

// payloads are of each size: noughts, ones, the greatest bytes, and all kinds; and some that look like frames.
func payloads() [][]byte {
	l := [][]byte{[]byte("a"), []byte("bc"), []byte("žluťoučký kůň"), wordsPut([]byte("a")), wordsPut(mixed(200))}
	for _, n := range sizes {
		l = append(l, make([]byte, n), bytes.Repeat([]byte{1}, n), bytes.Repeat([]byte{255}, n), mixed(n))
	}
	return l
}

// numBytes is a number's bytes, as layer 1's words say, by halves and remainders.
func numBytes(n int) []byte {
	var b []byte
	for ; n >= 128; n /= 128 {
		b = append(b, byte(n%128+128))
	}
	return append(b, byte(n))
}

// sumBytes is the four bytes of the sum of bytes.
func sumBytes(b []byte) []byte {
	n := crc32.ChecksumIEEE(b)
	return []byte{byte(n >> 24), byte(n >> 16), byte(n >> 8), byte(n)}
}

// laid is a frame's bytes, but with a number that is told.
func laid(number, payload []byte) []byte {
	return slices.Concat(number, payload, sumBytes(payload), []byte{1})
}

// wordsPut is a payload's frame, as the words say.
func wordsPut(payload []byte) []byte {
	return laid(numBytes(len(payload)), payload)
}

func frameOfA() []byte { return wordsPut([]byte("a")) }

// wordsGet asks of each number of bytes that a payload may have whether just its frame stands at a place.
func wordsGet(b []byte, at int) ([]byte, int, int) {
	if at < 0 || at > len(b) {
		return nil, at, frame.Torn
	}
	if at == len(b) || b[at] == 0 {
		return nil, at, frame.Nothing
	}
	for n := 1; n <= most; n++ {
		number := numBytes(n)
		from := at + len(number)
		if from+n+tail > len(b) {
			break
		}
		if !bytes.HasPrefix(b[at:], number) {
			continue
		}
		if f := wordsPut(b[from : from+n]); bytes.HasPrefix(b[at:], f) {
			return b[from : from+n], at + len(f), frame.Whole
		}
	}
	return nil, at, frame.Torn
}

func wordsAll(b []byte, at int) ([][]byte, int) {
	var l [][]byte
	for {
		p, next, what := wordsGet(b, at)
		if what != frame.Whole {
			return l, next
		}
		l, at = append(l, p), next
	}
}

func wantGet(t *testing.T, b []byte, at int, p []byte, next, what int) {
	t.Helper()
	if gp, gnext, gwhat := frame.Get(b, at); !bytes.Equal(gp, p) || gnext != next || gwhat != what {
		t.Errorf("Get(% .40x, %d), %d bytes: % .40x %d %d, not % .40x %d %d", b, at, len(b), gp, gnext, gwhat, p, next, what)
	}
}

func wantNone(t *testing.T, b []byte, at, what int) {
	t.Helper()
	wantGet(t, b, at, nil, at, what)
	wantAll(t, b, at, nil, at)
}

func wantAll(t *testing.T, b []byte, at int, l [][]byte, end int) {
	t.Helper()
	if gl, gend := frame.All(b, at); !slices.EqualFunc(gl, l, bytes.Equal) || gend != end {
		t.Errorf("All(% .40x, %d), %d bytes: %d of them, up to %d, not %d, up to %d", b, at, len(b), len(gl), gend, len(l), end)
	}
}

// wantWords asks of a place what the words say.
func wantWords(t *testing.T, b []byte, at int) {
	t.Helper()
	p, next, what := wordsGet(b, at)
	wantGet(t, b, at, p, next, what)
	l, end := wordsAll(b, at)
	wantAll(t, b, at, l, end)
}

// The names are numbers that a caller may have noted.
func TestNames(t *testing.T) {
	if frame.Nothing != 0 || frame.Whole != 1 || frame.Torn != 2 {
		t.Error(frame.Nothing, frame.Whole, frame.Torn)
	}
}

// P3.1: frames written out.
func TestPut(t *testing.T) {
	for _, c := range []struct {
		payload string
		want    []byte
	}{
		{"a", []byte{1, 0x61, 0xe8, 0xb7, 0xbe, 0x43, 1}},
		{"\x00", []byte{1, 0, 0xd2, 0x02, 0xef, 0x8d, 1}},
		{"\xff", []byte{1, 255, 255, 0, 0, 0, 1}},
		{"123456789", []byte("\x09123456789\xcb\xf4\x39\x26\x01")},
		{"\x9d\x0a\xd9\x6d", []byte{4, 0x9d, 0x0a, 0xd9, 0x6d, 0, 0, 0, 0, 1}},
		{"\xff\xff\xff\xff", []byte{4, 255, 255, 255, 255, 255, 255, 255, 255, 1}},
	} {
		if got := frame.Put([]byte(c.payload)); !bytes.Equal(got, c.want) {
			t.Errorf("Put(%q): % x", c.payload, got)
		}
	}
}

// P3.1: the number of the bytes, these, their sum, and the byte 1, of each size.
func TestPutOfSizes(t *testing.T) {
	heads := map[int][]byte{1: {1}, 127: {127}, 128: {128, 1}, 300: {0xac, 2}, 4000: {0xa0, 0x1f}}
	for _, p := range payloads() {
		got := frame.Put(p)
		if !bytes.Equal(got, wordsPut(p)) {
			t.Errorf("Put(% .40x), %d bytes: % .40x", p, len(p), got)
		}
		if head := heads[len(p)]; !bytes.HasPrefix(got, head) || len(head) > 0 && len(got) != len(head)+len(p)+tail {
			t.Errorf("Put of %d bytes begins % .5x, and has %d", len(p), got, len(got))
		}
	}
}

// P3.1: what is no payload has no frame.
func TestPutOfNone(t *testing.T) {
	for _, p := range [][]byte{nil, {}, make([]byte, 0, 9), make([]byte, 4001), mixed(4001), mixed(4002), mixed(5000), mixed(1 << 14), make([]byte, 1<<20)} {
		if got := frame.Put(p); len(got) != 0 {
			t.Errorf("Put of %d bytes: % .40x", len(p), got)
		}
	}
}

// P3.2: the payload at a place, the place behind it, and Whole.
func TestGet(t *testing.T) {
	b := []byte{9, 1, 0x61, 0xe8, 0xb7, 0xbe, 0x43, 1, 1, 0, 0xd2, 0x02, 0xef, 0x8d, 1, 0, 7}
	wantGet(t, b, 1, []byte("a"), 8, frame.Whole)
	wantGet(t, b, 8, []byte{0}, 15, frame.Whole)
	wantGet(t, b[:8], 1, []byte("a"), 8, frame.Whole) // its last byte is where the bytes end
	wantGet(t, b[:15], 8, []byte{0}, 15, frame.Whole)
	wantNone(t, b, 0, frame.Torn)
	wantNone(t, b, 7, frame.Torn)
	wantNone(t, b, 16, frame.Torn)
	for _, p := range payloads() {
		f := wordsPut(p)
		wantGet(t, f, 0, p, len(f), frame.Whole)
		wantGet(t, append([]byte{0, 255}, f...), 2, p, len(f)+2, frame.Whole)
	}
}

// P3.2: nothing stands where the bytes end, and where there is a byte 0, whatever is behind that.
func TestNothing(t *testing.T) {
	a := wordsPut([]byte("a"))
	wantNone(t, nil, 0, frame.Nothing)
	wantNone(t, []byte{}, 0, frame.Nothing)
	wantNone(t, a, len(a), frame.Nothing)
	wantNone(t, append(bytes.Clone(a), a...)[:len(a)], len(a), frame.Nothing) // though one stands in the spare room
	wantNone(t, laid([]byte{0}, nil), 0, frame.Nothing)                       // that of no bytes
	wantNone(t, slices.Concat([]byte{0}, a), 0, frame.Nothing)
	for n := 1; n < 20; n++ {
		for at := range n + 1 {
			wantNone(t, make([]byte, n), at, frame.Nothing)
		}
	}
	for _, p := range payloads() {
		f := wordsPut(p)
		wantNone(t, f, len(f), frame.Nothing)
		wantNone(t, append(f, 0), len(f), frame.Nothing)
		wantNone(t, append(f, 0, 1, 2, 3), len(f), frame.Nothing)
	}
}

// P3.2: places that aren't from 0 to where the bytes end.
func TestPlaces(t *testing.T) {
	a := wordsPut([]byte("a"))
	for _, b := range [][]byte{nil, {}, {0}, {1}, {0, 0, 0}, a, slices.Concat(a, a, []byte{0}), append(bytes.Clone(a), a...)[:len(a)]} {
		for _, at := range []int{math.MinInt, math.MinInt + 1, -1 << 32, -len(b) - 1, -7, -2, -1, len(b) + 1, len(b) + 2, len(b) + 7, 1 << 32, math.MaxInt - 5, math.MaxInt - 1, math.MaxInt} {
			wantNone(t, b, at, frame.Torn)
		}
	}
}

// P3.2: a number of bytes that isn't as short as may be, is 0 in more bytes than one, is above 4,000, or has no end.
func TestWrongNumber(t *testing.T) {
	for _, p := range payloads() {
		number := numBytes(len(p))
		for range 9 { // a group of 0 more, and more of them
			number[len(number)-1] |= 128
			number = append(number, 0)
			wantNone(t, laid(number, p), 0, frame.Torn)
		}
	}
	for k := 1; k < 12; k++ {
		noughts := slices.Repeat([]byte{128}, k)
		wantNone(t, laid(append(noughts, 0), nil), 0, frame.Torn)
		wantNone(t, laid(append(noughts, 0), []byte("a")), 0, frame.Torn)
		wantNone(t, noughts, 0, frame.Torn)
		wantNone(t, slices.Repeat([]byte{255}, k), 0, frame.Torn)
	}
	for _, none := range [][]byte{{0x80, 0}, {0x80}, {0x81, 0}, {255}, {128, 128, 128, 128, 128, 128, 128, 16}} { // bytes ahead that would be the frame of no bytes, but for their number
		wantNone(t, append([]byte{0, 0, 0, 0, 1}, none...), 5, frame.Torn)
	}
	for _, n := range []int{4001, 4002, 4007, 4095, 4096, 8000, 1<<14 - 1, 1 << 14, 70000} {
		wantNone(t, wordsPut(mixed(n)), 0, frame.Torn)
		wantNone(t, append(wordsPut(make([]byte, n)), wordsPut([]byte("a"))...), 0, frame.Torn)
	}
	for _, n := range []int{1 << 31, 1 << 32, 1<<53 - 1, 1 << 53, 1 << 56, math.MaxInt - tail, math.MaxInt} {
		wantNone(t, laid(numBytes(n), []byte("a")), 0, frame.Torn)
	}
	for _, p := range payloads() { // one byte more, and one fewer, than are there
		n := len(p)
		wantNone(t, laid(numBytes(n+1), p), 0, frame.Torn)
		wantNone(t, append(laid(numBytes(n+1), p), 1), 0, frame.Torn)
		if n > 1 {
			wantNone(t, laid(numBytes(n-1), p), 0, frame.Torn)
		}
	}
}

// P3.2: a sum that is another.
func TestWrongSum(t *testing.T) {
	for _, p := range payloads() {
		f := wordsPut(p)
		at := len(f) - tail
		for _, s := range [][]byte{sumBytes(nil), sumBytes(f[:at]), sumBytes(p[1:]), sumBytes(append(bytes.Clone(p), 0)), {f[at+3], f[at+2], f[at+1], f[at]}, {0, 0, 0, 0}, {255, 255, 255, 255}} {
			if bytes.Equal(s, sumBytes(p)) {
				continue
			}
			wantNone(t, slices.Concat(f[:at], s, []byte{1}), 0, frame.Torn)
		}
		for i := range 4 {
			for _, x := range []byte{1, 128, 255} {
				c := bytes.Clone(f)
				c[at+i] ^= x
				wantNone(t, c, 0, frame.Torn)
			}
		}
	}
}

// P3.2: a last byte that isn't 1, and none.
func TestWrongLast(t *testing.T) {
	for _, p := range payloads() {
		f := wordsPut(p)
		end := len(f) - 1
		for x := range 256 {
			if x != 1 {
				wantNone(t, append(f[:end:end], byte(x)), 0, frame.Torn)
			}
		}
		wantNone(t, f[:end], 0, frame.Torn)                                        // though it stands in the spare room
		wantNone(t, append(f[:end:end], wordsPut([]byte("bc"))...), 0, frame.Torn) // another one begins there
	}
}

// P3.3: all frames from a place on, up to what is none, and the place there.
func TestAll(t *testing.T) {
	one, two, three := []byte("a"), mixed(200), make([]byte, 4000)
	f1, f2, f3 := wordsPut(one), wordsPut(two), wordsPut(three)
	at2 := len(f1)
	at3 := at2 + len(f2)
	end := at3 + len(f3)
	all := slices.Concat(f1, f2, f3)
	for _, behind := range [][]byte{nil, {0}, {0, 9}, make([]byte, 50), {9}, {255}, {1, 'a'}, f1[:6], append([]byte{0}, f1...), append([]byte{1}, f1...), wordsPut(mixed(4001)), {0x80, 0}} {
		b := slices.Concat(all, behind)
		wantAll(t, b, 0, [][]byte{one, two, three}, end)
		wantAll(t, b, at2, [][]byte{two, three}, end)
		wantAll(t, b, at3, [][]byte{three}, end)
		wantAll(t, b, end, nil, end)
		wantAll(t, b[:end], 0, [][]byte{one, two, three}, end) // whatever the spare room has
		wantAll(t, b[:end-1], 0, [][]byte{one, two}, at3)
		for _, at := range []int{1, at2 - 1, at2 + 2, at3 - 1, end - 1} { // within a frame
			wantWords(t, b, at)
		}
	}
	turned := bytes.Clone(all)
	turned[at2+50] ^= 1
	wantAll(t, turned, 0, [][]byte{one}, at2) // those behind one that is torn don't count
	wantAll(t, turned, at2, nil, at2)
	wantAll(t, turned, at3, [][]byte{three}, end)
	wantAll(t, slices.Concat(f1, []byte{0}, f2), 0, [][]byte{one}, at2)
	wantAll(t, slices.Concat([]byte{7, 7}, f2, f1), 2, [][]byte{two, one}, 2+len(f2)+len(f1))
}

// P3.3: many frames, and none.
func TestAllOfMany(t *testing.T) {
	for _, n := range []int{0, 1, 2, 50, 3000} {
		var b []byte
		var l [][]byte
		for i := range n {
			p := mixed(i%140 + 1)
			l = append(l, p)
			b = append(b, frame.Put(p)...)
		}
		wantAll(t, b, 0, l, len(b))
		wantAll(t, append(b, 0), 0, l, len(b))
		wantAll(t, append(b, 3), 0, l, len(b))
		wantAll(t, b, len(b), nil, len(b))
	}
}

// P3.3: All is Get again and again, of every place of bytes that hold frames, pieces of some, and others.
func TestEveryPlace(t *testing.T) {
	f1, f2, f3 := wordsPut([]byte("a")), wordsPut(wordsPut([]byte("bc"))), wordsPut(mixed(130))
	for _, b := range [][]byte{
		slices.Concat(f1, f2, f3), slices.Concat(f3, f1, []byte{0, 0}, f2), slices.Concat(f2[:9], f1, f3[:70]),
		slices.Concat(f1, f1, []byte{0x80}, f1, []byte{0}, f1, []byte{5}), mixed(300), make([]byte, 40), bytes.Repeat([]byte{1}, 40),
	} {
		for at := -2; at < len(b)+3; at++ {
			wantWords(t, b, at)
		}
	}
}

// P3.2, P3.3: of frames of one byte and two, each of their bytes made each other one, what the words say.
func TestEveryByte(t *testing.T) {
	whole := 0
	for _, p := range [][]byte{{0}, {1}, {255}, {1, 1}, {0, 255}} {
		f := wordsPut(p)
		for i := range f {
			for c := range 256 {
				b := append(bytes.Clone(f), frameOfA()...)
				b[i] = byte(c)
				wantWords(t, b, 0)
				if _, _, what := frame.Get(b, 0); what == frame.Whole {
					whole++
					if b[i] != f[i] {
						t.Errorf("% x is a frame", b)
					}
				}
			}
		}
	}
	if whole != 3*7+2*8 {
		t.Error("frames:", whole)
	}
}

// P3.4: a frame is read again, whatever stands ahead and behind.
func TestReadAgain(t *testing.T) {
	around := [][]byte{nil, {0}, {1}, {127}, {128}, {255}, {128, 0}, bytes.Repeat([]byte{255}, 20), wordsPut([]byte("x")), wordsPut(mixed(150))[:90]}
	for _, p := range payloads() {
		f := frame.Put(p)
		for _, head := range around {
			for _, behind := range around {
				b := slices.Concat(head, f, behind)
				wantGet(t, b, len(head), p, len(head)+len(f), frame.Whole)
			}
		}
	}
}

// P3.4: of a frame's first bytes, fewer than all, with noughts behind, none is Whole: of one at least, Torn.
func TestCutShort(t *testing.T) {
	for _, p := range payloads() {
		f := frame.Put(p)
		for k := range f {
			if k > 300 && k < len(f)-20 && k%97 != 0 {
				continue
			}
			want := frame.Torn
			if k == 0 {
				want = frame.Nothing
			}
			for _, noughts := range []int{0, 1, 2, len(f) - k - 1, len(f) - k, len(f) - k + 1, len(f) + 200} {
				wantNone(t, append(f[:k:k], make([]byte, noughts)...), 0, want)
			}
			wantNone(t, f[:k], 0, want) // though the rest stands in the spare room
		}
	}
}

// P3.4: a frame that was cut short behind others leaves these as they are.
func TestCutShortBehindOthers(t *testing.T) {
	one, two := []byte("a"), mixed(128)
	head := slices.Concat(wordsPut(one), wordsPut(two))
	for _, p := range [][]byte{{0}, {1}, []byte("bc"), mixed(127), mixed(128), mixed(4000)} {
		f := frame.Put(p)
		for k := range f {
			if k > 200 && k < len(f)-20 && k%97 != 0 {
				continue
			}
			b := append(slices.Concat(head, f[:k]), make([]byte, len(f)+20)...)
			wantAll(t, b, 0, [][]byte{one, two}, len(head))
			want := frame.Torn
			if k == 0 {
				want = frame.Nothing
			}
			wantNone(t, b, len(head), want)
		}
	}
}

// P3.4: one bit turned, it isn't whole; and nothing but where its first byte became 0.
func TestTurned(t *testing.T) {
	behind := [][]byte{nil, make([]byte, 5000), wordsPut([]byte("a"))}
	for _, p := range payloads() {
		f := frame.Put(p)
		for i := range f {
			if i > 140 && i < len(f)-20 && i%97 != 0 {
				continue
			}
			for bit := range 8 {
				f[i] ^= 1 << bit
				want := frame.Torn
				if f[0] == 0 {
					want = frame.Nothing
				}
				wantNone(t, slices.Concat(f, behind[bit%len(behind)]), 0, want)
				f[i] ^= 1 << bit
			}
		}
		wantGet(t, f, 0, p, len(f), frame.Whole)
	}
}

// Rule 4: what is handed in stays as it is, its spare room too, and isn't kept.
func TestHandedIn(t *testing.T) {
	for _, n := range []int{0, 1, 127, 128, 4000, 4001} {
		whole := append(mixed(n), bytes.Repeat([]byte{7}, 20)...)
		was := bytes.Clone(whole)
		f := frame.Put(whole[:n])
		first := bytes.Clone(f)
		if !bytes.Equal(whole, was) {
			t.Errorf("Put of %d bytes changed them", n)
		}
		clear(whole)
		if !bytes.Equal(f, first) {
			t.Errorf("Put of %d bytes kept them", n)
		}
	}
	whole := slices.Concat(frameOfA(), wordsPut([]byte("bc")), bytes.Repeat([]byte{7}, 20))
	was := bytes.Clone(whole)
	b := whole[:len(whole)-20]
	p, _, _ := frame.Get(b, 0)
	l, _ := frame.All(b, 0)
	for at := -1; at < len(b)+2; at++ {
		frame.Get(b, at)
		frame.All(b, at)
	}
	if !bytes.Equal(whole, was) {
		t.Errorf("% x", whole)
	}
	clear(whole)
	if string(p) != "a" || len(l) != 2 || string(l[0]) != "a" || string(l[1]) != "bc" {
		t.Error(p, l)
	}
}

// spoil writes over a list and its spare room.
func spoil(b []byte) {
	b = b[:cap(b)]
	for i := range b {
		b[i] = 99
	}
}

// Rule 4: an answer is new memory, its spare room too.
func TestNewMemory(t *testing.T) {
	for _, n := range []int{1, 127, 128, 4000} {
		p := mixed(n)
		first, second := frame.Put(p), frame.Put(p)
		spoil(first)
		if !bytes.Equal(second, wordsPut(p)) || !bytes.Equal(frame.Put(p), wordsPut(p)) || !bytes.Equal(p, mixed(n)) {
			t.Errorf("Put of %d bytes shares", n)
		}
		b := append(wordsPut(p), wordsPut([]byte("bc"))...)
		was := bytes.Clone(b)
		got, _, _ := frame.Get(b, 0)
		again, _, _ := frame.Get(b, 0)
		spoil(got)
		if !bytes.Equal(b, was) || !bytes.Equal(again, p) {
			t.Errorf("Get of %d bytes shares", n)
		}
	}
}

// Rule 4: no payload shares with another one, nor with the bytes, whatever is added to it.
func TestPayloadsApart(t *testing.T) {
	want := [][]byte{[]byte("a"), mixed(200), []byte("bc"), mixed(128)}
	var b []byte
	for _, p := range want {
		b = append(b, wordsPut(p)...)
	}
	was := bytes.Clone(b)
	for i := range want {
		l, _ := frame.All(b, 0)
		_ = append(l[i], bytes.Repeat([]byte{99}, 300)...)
		_ = append(l[i], 99)
		if !slices.EqualFunc(l, want, bytes.Equal) {
			t.Errorf("what was added to payload %d is written over another", i)
		}
		spoil(l[i])
		for k := range want {
			if k != i && !bytes.Equal(l[k], want[k]) {
				t.Errorf("payload %d shares with payload %d", i, k)
			}
		}
		wantAll(t, b, 0, want, len(b))
		if !bytes.Equal(b, was) {
			t.Errorf("payload %d shares with the bytes", i)
		}
	}
}

// Rule 6: an answer doesn't hang on what was asked ahead.
func TestAskedAgain(t *testing.T) {
	b := slices.Concat(frameOfA(), []byte{0, 9}, wordsPut(mixed(300)))
	for range 3 {
		wantAll(t, b, 0, [][]byte{[]byte("a")}, 7)
		wantNone(t, b, 7, frame.Nothing)
		wantNone(t, b, 8, frame.Torn)
		wantGet(t, b, 9, mixed(300), len(b), frame.Whole)
		if len(frame.Put(nil)) != 0 || !bytes.Equal(frame.Put([]byte("a")), frameOfA()) {
			t.Error("another answer than ahead")
		}
	}
}
