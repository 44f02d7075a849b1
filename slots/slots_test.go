package slots_test

import (
	"bytes"
	"hash/crc32"
	"math"
	"slices"
	"testing"

	"dunnage/api"
	"dunnage/disk"
	"dunnage/slots"
)

const (
	most     = 4000      // bytes of a payload
	mostDisk = 65536     // bytes of a disk
	tail     = 5         // bytes of a frame behind its payload
	greatest = 1<<53 - 1 // of the numbers
)

// ages are those around each place where a number needs one byte more, and around both ends.
var ages = []int{0, 1, 2, 126, 127, 128, 129, 1<<14 - 1, 1 << 14, 1<<32 - 1, 1 << 32, 1<<49 - 1, 1 << 49, greatest - 1, greatest}

// noAges are no numbers.
var noAges = []int{-1, -2, -127, -128, math.MinInt32, math.MinInt, math.MinInt + 1, greatest + 1, greatest + 2, 1 << 62, math.MaxInt - 1, math.MaxInt}

// numBytes is a number's bytes, as layer 1's words say.
func numBytes(n int) []byte {
	var b []byte
	for ; n >= 128; n /= 128 {
		b = append(b, byte(n%128+128))
	}
	return append(b, byte(n))
}

// number is what number stands at the start of bytes, and how many bytes it has; ok is false without one.
func number(b []byte) (n, size int, ok bool) {
	for k, c := range b {
		n += int(c%128) << (7 * k)
		if c < 128 {
			return n, k + 1, n <= greatest && bytes.Equal(numBytes(n), b[:k+1])
		}
		if k == 7 {
			break
		}
	}
	return 0, 0, false
}

// framed is a payload's frame, as layer 3's words say.
func framed(p []byte) []byte {
	n := crc32.ChecksumIEEE(p)
	return slices.Concat(numBytes(len(p)), p, []byte{byte(n >> 24), byte(n >> 16), byte(n >> 8), byte(n), 1})
}

// pictured is the frame of a picture.
func pictured(b []byte, age int) []byte { return framed(append(numBytes(age), b...)) }

// mixed is n bytes of which each value comes, in no plain order, other ones for each seed.
func mixed(n, seed int) []byte {
	b := make([]byte, n)
	for i := range b {
		b[i] = byte(i*i*7 + i*13 + i>>8 + seed*31 + 5)
	}
	return b
}

// one is a picture of one byte.
func one(c byte) []byte { return []byte{c} }

// padded is bytes, and noughts behind them up to a size.
func padded(b []byte, size int) []byte {
	return append(bytes.Clone(b), make([]byte, size-len(b))...)
}

// has is what picture a slot's bytes have: asked of each number of bytes that a payload may have.
func has(b []byte) (p []byte, age int, ok bool) {
	for n := 1; n <= most && len(numBytes(n))+n+tail <= len(b); n++ {
		count := numBytes(n)
		if !bytes.HasPrefix(b, count) {
			continue
		}
		payload := b[len(count) : len(count)+n]
		age, size, ok := number(payload)
		if !ok || !bytes.HasPrefix(b, framed(payload)) {
			return nil, 0, false
		}
		return payload[size:], age, true
	}
	return nil, 0, false
}

// fits says whether a picture of n bytes may be a slot's.
func fits(n, age, size int) bool {
	payload := len(numBytes(age)) + n
	return payload <= most && len(numBytes(payload))+payload+tail <= size
}

func newDisk(t *testing.T, b []byte) *disk.Disk {
	t.Helper()
	d := disk.New(len(b))
	if d == nil || d.Write(0, b) != api.OK {
		t.Fatal("no disk of", len(b))
	}
	d.Sync()
	return d
}

func open(t *testing.T, d *disk.Disk, from, size int) *slots.Slots {
	t.Helper()
	s, e := slots.Open(d, from, size)
	if e != api.OK || s == nil {
		t.Fatalf("Open(%d, %d) of a disk of %d: %d", from, size, d.Size(), e)
	}
	return s
}

func wantPicture(t *testing.T, s *slots.Slots, b []byte, age int) {
	t.Helper()
	if p, n, ok := s.Load(); !ok || n != age || !bytes.Equal(p, b) {
		t.Errorf("picture % .100x of %d, %v, not % .100x of %d", p, n, ok, b, age)
	}
}

func wantNone(t *testing.T, s *slots.Slots) {
	t.Helper()
	if p, n, ok := s.Load(); ok || n != 0 || len(p) != 0 {
		t.Errorf("picture % .100x of %d, %v, not none", p, n, ok)
	}
}

func wantStart(t *testing.T, s *slots.Slots, b []byte, age int, want api.Errno) {
	t.Helper()
	if got := s.Start(b, age); got != want {
		t.Errorf("Start of %d bytes, %d: %d, not %d", len(b), age, got, want)
	}
}

func wantSave(t *testing.T, s *slots.Slots, b []byte, age int, want api.Errno) {
	t.Helper()
	if got := s.Save(b, age); got != want {
		t.Errorf("Save of %d bytes, %d: %d, not %d", len(b), age, got, want)
	}
}

// wantDisk wants bytes, as they are read, how many of them wait, and how often they were synced.
func wantDisk(t *testing.T, d *disk.Disk, want []byte, waits, syncs int) {
	t.Helper()
	if got := d.Bytes(); !bytes.Equal(got, want) {
		t.Errorf("bytes % .300x, not % .300x", got, want)
	}
	if d.Waits() != waits || d.Syncs() != syncs {
		t.Errorf("waits %d syncs %d, not %d and %d", d.Waits(), d.Syncs(), waits, syncs)
	}
}

// The chapter's own example.
func TestExample(t *testing.T) {
	d := disk.New(40)
	s := open(t, d, 0, 20)
	wantSave(t, s, one('a'), 1, api.OK)
	wantStart(t, s, one('b'), 2, api.OK)
	d.Crash(3)
	wantPicture(t, s, one('a'), 1)
	wantPicture(t, open(t, d, 0, 20), one('a'), 1)
}

// places are places and sizes of slots on a disk of 64 bytes: all of it, of one byte each, up to its end, and some between.
func places() [][2]int {
	return [][2]int{{0, 32}, {0, 1}, {0, 31}, {1, 31}, {2, 31}, {62, 1}, {61, 1}, {60, 2}, {63 - 14, 7}, {64 - 14, 7}, {10, 20}, {24, 20}}
}

// P6.1: slots of each place are opened, again and again; nothing is done to the disk, and there is no picture where there was none.
func TestOpen(t *testing.T) {
	for _, x := range places() {
		b := bytes.Repeat(one(255), 64) // no frame
		d := newDisk(t, b)
		d.Write(5, one(77))
		b[5] = 77
		for range 3 {
			wantNone(t, open(t, d, x[0], x[1]))
		}
		wantDisk(t, d, b, 1, 1)
	}
	d := disk.New(mostDisk)
	for _, x := range [][2]int{{0, mostDisk / 2}, {1, mostDisk/2 - 1}, {2, mostDisk/2 - 1}, {mostDisk - 2, 1}} {
		wantNone(t, open(t, d, x[0], x[1]))
	}
	wantNone(t, open(t, disk.New(2), 0, 1))
}

// P6.1: slots that aren't on the disk, both of them: ErrArg, and none; nothing is done to the disk.
func TestOpenOfNone(t *testing.T) {
	b := append(pictured(one('a'), 1), mixed(42, 1)...)
	d := newDisk(t, b)
	d.Write(49, one(200))
	b[49] = 200
	for _, x := range [][2]int{
		{-1, 1}, {-1, 20}, {-1, 25}, {-2, 26}, {-50, 25}, {-50, 50}, {-2, 1}, {math.MinInt, 1}, {math.MinInt, math.MinInt}, {math.MinInt + 1, math.MaxInt}, {math.MinInt, 1 << 62}, {math.MinInt + 50, 1},
		{0, 0}, {7, 0}, {50, 0}, {51, 0}, {0, -1}, {50, -1}, {51, -1}, {52, -1}, {50, -25}, {0, math.MinInt}, {0, math.MinInt + 1}, {50, math.MinInt}, {math.MaxInt, math.MinInt}, {math.MaxInt, -1}, {-1, 0}, {-1, -1},
		{0, 26}, {1, 25}, {0, 50}, {0, 51}, {2, 25}, {46, 3}, {47, 2}, {48, 2}, {49, 1}, {50, 1}, {51, 1}, {100, 1}, {0, mostDisk}, {0, 1 << 62}, {0, 1<<62 + 1}, {0, 1<<62 + 25}, {0, math.MaxInt}, {1, math.MaxInt}, {50, math.MaxInt},
		{math.MaxInt, 1}, {math.MaxInt - 1, 1}, {math.MaxInt, 25}, {math.MaxInt, math.MaxInt}, {math.MaxInt - 49, 25}, {math.MaxInt - 13, 7}, {1 << 62, 1 << 62}, {1 << 62, 1 << 61}, {1 << 62, 1}, {1 << 32, 25}, {1<<32 + 7, 7}, {7, 1<<32 + 7}, {7, 1<<31 + 7}, {1 << 63 / 2, 5},
	} {
		for _, y := range []*disk.Disk{d, nil} {
			if s, e := slots.Open(y, x[0], x[1]); e != api.ErrArg || s != nil {
				t.Errorf("Open(%d): %v %d", x, s, e)
			}
		}
	}
	for _, x := range [][2]int{{0, 1}, {0, 25}, {5, 5}} {
		if s, e := slots.Open(nil, x[0], x[1]); e != api.ErrArg || s != nil {
			t.Errorf("Open(nil, %d): %v %d", x, s, e)
		}
	}
	wantDisk(t, d, b, 1, 1)
}

// P6.1: of each disk of few bytes just those slots are opened that are both on it.
func TestOpenEach(t *testing.T) {
	for all := 1; all < 12; all++ {
		d := disk.New(all)
		for from := -3; from < 15; from++ {
			for size := -3; size < 15; size++ {
				s, e := slots.Open(d, from, size)
				if may := from >= 0 && size >= 1 && from+2*size <= all; may != (e == api.OK) || may != (s != nil) || !may && e != api.ErrArg {
					t.Errorf("Open(%d, %d) of a disk of %d: %d", from, size, all, e)
				}
			}
		}
	}
}

// slotBytes are bytes that may stand in a slot of 30, and the picture that they are (none: below 0).
func slotBytes() []struct {
	b   []byte
	p   []byte
	age int
} {
	return []struct {
		b   []byte
		p   []byte
		age int
	}{
		{nil, nil, -1},
		{one(255), nil, -1},
		{pictured(one('a'), 1), one('a'), 1},
		{pictured(nil, 0), nil, 0},
		{pictured(nil, 1), nil, 1},
		{pictured([]byte("other"), 1), []byte("other"), 1},
		{pictured(mixed(23, 1), 2), mixed(23, 1), 2}, // up to the last byte
		{pictured(mixed(24, 1), 3)[:30], nil, -1},    // it goes on behind the slot
		{append(pictured([]byte("bcd"), 127), 9, 9, 9), []byte("bcd"), 127},
		{append(pictured(one('b'), 128), pictured(one('c'), 129)...), one('b'), 128}, // and a frame behind it
		{append(one(0), pictured(one('b'), 7)...), nil, -1},                          // not at its first byte
		{append(one(9), pictured(one('b'), 7)...), nil, -1},
		{pictured([]byte("torn"), 9)[:9], nil, -1},
		{pictured([]byte("torn"), 9)[:1], nil, -1},
		{append(pictured([]byte("torn"), 9)[:9], 1), nil, -1},
		{pictured(nil, greatest), nil, greatest},
		{pictured(one(0), greatest), one(0), greatest},
		{pictured(pictured(one('x'), 99), 5), pictured(one('x'), 99), 5}, // a picture in a picture
		{pictured([]byte{0, 0, 0}, 0), []byte{0, 0, 0}, 0},
		{pictured([]byte{128, 0}, 3), []byte{128, 0}, 3},
		{framed([]byte{128}), nil, -1}, // no number
		{framed([]byte{128, 0}), nil, -1},
		{framed([]byte{129, 0, 5}), nil, -1},
		{framed([]byte{255, 255, 255, 255, 255, 255, 255, 255}), nil, -1},
		{framed([]byte{128, 128, 128, 128, 128, 128, 128, 16, 5}), nil, -1}, // 2^53
		{framed([]byte{255, 255, 255, 255, 255, 255, 255, 31, 5}), nil, -1},
		{framed([]byte{128, 128, 128, 128, 128, 128, 128, 128, 1}), nil, -1},
		{framed([]byte{255, 255, 255, 255, 255, 255, 255, 15, 5}), one(5), greatest},
	}
}

// P6.1: the picture is that of the slot whose age is greater, of both alike the first one's; bytes around the slots aren't theirs.
func TestLoad(t *testing.T) {
	for i, x := range slotBytes() {
		for k, y := range slotBytes() {
			for _, around := range [][]byte{nil, one(1), pictured(one('z'), greatest), mixed(20, 1)} {
				d := newDisk(t, slices.Concat(around, padded(x.b, 30), padded(y.b, 30), around))
				was := d.Bytes()
				s := open(t, d, len(around), 30)
				for range 2 {
					switch {
					case x.age < 0 && y.age < 0:
						wantNone(t, s)
					case x.age >= y.age:
						wantPicture(t, s, x.p, x.age)
					default:
						wantPicture(t, s, y.p, y.age)
					}
				}
				wantDisk(t, d, was, 0, 1)
				if t.Failed() {
					t.Fatal("slots", i, k)
				}
			}
		}
	}
}

// P6.1: a picture that waits is read as if it lasted.
func TestLoadOfWaiting(t *testing.T) {
	d := disk.New(60)
	s := open(t, d, 0, 30)
	d.Write(30, pictured(one('w'), 4))
	wantPicture(t, s, one('w'), 4)
	wantPicture(t, open(t, d, 0, 30), one('w'), 4)
	d.Crash(7)
	wantNone(t, s)
}

// P6.1: of each two ages the greater one counts, in either slot.
func TestLoadAges(t *testing.T) {
	for _, x := range ages {
		for _, y := range ages {
			d := newDisk(t, append(padded(pictured(one('x'), x), 30), padded(pictured(one('y'), y), 30)...))
			if s := open(t, d, 0, 30); x >= y {
				wantPicture(t, s, one('x'), x)
			} else {
				wantPicture(t, s, one('y'), y)
			}
		}
	}
}

// P6.2: a Start makes noughts of all the other slot, that last, and writes the frame there, which waits; all else stays.
func TestStart(t *testing.T) {
	for _, from := range []int{0, 1, 10} {
		for i, x := range slotBytes() {
			for k, y := range slotBytes() {
				b := slices.Concat(mixed(from, 1), padded(x.b, 30), padded(y.b, 30), mixed(7, 1))
				for j := range b {
					if j >= from+len(x.b) && j < from+30 && x.age >= 0 || j >= from+30+len(y.b) && j < from+60 {
						b[j] = 99 // behind the frames
					}
				}
				d := newDisk(t, b)
				s := open(t, d, from, 30)
				age := max(x.age, y.age) + 1
				if age > greatest {
					wantStart(t, s, nil, greatest, api.ErrOld)
					wantDisk(t, d, b, 0, 1)
					continue
				}
				d.Write(from+60, []byte{1, 2}) // waits, and isn't the slots'
				copy(b[from+60:], []byte{1, 2})
				other := from
				if x.age >= y.age && x.age >= 0 {
					other = from + 30
				}
				wantStart(t, s, []byte("new"), age, api.OK)
				f := pictured([]byte("new"), age)
				clear(b[other : other+30])
				lasts := bytes.Clone(b)
				copy(b[other:], f)
				wantDisk(t, d, b, len(f), 2)
				wantPicture(t, s, []byte("new"), age)
				d.Crash(0)
				wantDisk(t, d, lasts, 0, 2)
				if t.Failed() {
					t.Fatal("slots", i, k, from)
				}
			}
		}
	}
}

// P6.2: pictures go to one slot and the other in turn, whether they are started or saved; what was started lasts from the next one on.
func TestInTurn(t *testing.T) {
	d := disk.New(70)
	s := open(t, d, 3, 30)
	want := make([]byte, 70)
	syncs, waits := 0, 0
	for k, age := range ages {
		p := mixed(k%16, k)
		at := 3 + k%2*30
		clear(want[at : at+30])
		waits = copy(want[at:], pictured(p, age))
		syncs++
		if k%3 == 0 {
			wantSave(t, s, p, age, api.OK)
			syncs++
			waits = 0
		} else {
			wantStart(t, s, p, age, api.OK)
		}
		wantDisk(t, d, want, waits, syncs)
		wantPicture(t, s, p, age)
		if k%4 == 0 {
			s = open(t, d, 3, 30)
			wantPicture(t, s, p, age)
		}
	}
}

// P6.2: Save is Start, and the disk is synced then: the picture lasts, and what waited ahead.
func TestSave(t *testing.T) {
	for _, age := range ages {
		for _, p := range [][]byte{nil, {}, one(0), one('a'), mixed(100, 1), make([]byte, 100), bytes.Repeat(one(1), 100)} {
			d := disk.New(300)
			s := open(t, d, 20, 120)
			d.Write(0, one(9))
			wantSave(t, s, p, age, api.OK)
			want := slices.Concat(one(9), make([]byte, 19), pictured(p, age))
			wantDisk(t, d, padded(want, 300), 0, 2)
			d.Crash(0)
			wantDisk(t, d, padded(want, 300), 0, 2)
			wantPicture(t, s, p, age)
			wantPicture(t, open(t, d, 20, 120), p, age)
			wantSave(t, s, p, age, api.ErrOld)
			if age < greatest {
				wantSave(t, s, one('z'), age+1, api.OK)
				want = slices.Concat(padded(want, 140), pictured(one('z'), age+1))
				wantDisk(t, d, padded(want, 300), 0, 4)
			}
		}
	}
}

// wantError wants an error of Start and Save alike, and that nothing is done to the disk.
func wantError(t *testing.T, d *disk.Disk, s *slots.Slots, b []byte, age int, want api.Errno) {
	t.Helper()
	was, waits, syncs := d.Bytes(), d.Waits(), d.Syncs()
	wantStart(t, s, b, age, want)
	wantSave(t, s, b, age, want)
	wantDisk(t, d, was, waits, syncs)
}

// P6.2: an age that is no number is ErrArg, whatever else is wrong.
func TestAgeOfNone(t *testing.T) {
	for _, size := range []int{1, 7, 30} {
		d := newDisk(t, mixed(2*size, 4))
		s := open(t, d, 0, size)
		d.Write(0, one(255))
		for _, age := range noAges {
			for _, n := range []int{0, 1, 100, most, 1 << 17} {
				wantError(t, d, s, mixed(n, 1), age, api.ErrArg)
			}
		}
		if size > 7 {
			wantStart(t, s, one('a'), greatest, api.OK)
			for _, age := range noAges {
				wantError(t, d, s, nil, age, api.ErrArg)
				wantError(t, d, s, mixed(most, 1), age, api.ErrArg)
			}
		}
	}
}

// P6.2: an age that isn't above the picture's is ErrOld, if it is a number, though there is no room; none is old without a picture.
func TestOld(t *testing.T) {
	for _, is := range ages {
		for _, age := range ages {
			d := disk.New(64)
			s := open(t, d, 2, 30)
			wantError(t, d, s, mixed(30, 1), age, api.ErrFull)
			wantStart(t, s, one('p'), is, api.OK)
			if age > is {
				wantError(t, d, s, mixed(30, 1), age, api.ErrFull)
				wantStart(t, s, one('q'), age, api.OK)
				wantPicture(t, s, one('q'), age)
				wantError(t, d, s, one('r'), is, api.ErrOld)
				wantError(t, d, s, one('r'), age, api.ErrOld)
				continue
			}
			for _, n := range []int{0, 1, 30, most, 1 << 17} {
				wantError(t, d, s, mixed(n, 1), age, api.ErrOld)
			}
			wantPicture(t, s, one('p'), is)
		}
	}
}

// P6.2: the picture that counts tells what is old, not the other slot's, nor what a crash took.
func TestOldOfWhich(t *testing.T) {
	for _, x := range [][2]int{{5, 9}, {9, 5}, {9, 9}, {9, -1}, {-1, 9}} {
		b := make([]byte, 60)
		for i, age := range x {
			if age >= 0 {
				copy(b[i*30:], pictured(one('p'), age))
			}
		}
		d := newDisk(t, b)
		s := open(t, d, 0, 30)
		for _, age := range []int{0, 4, 5, 6, 8, 9} {
			wantError(t, d, s, one('n'), age, api.ErrOld)
		}
		wantStart(t, s, one('n'), 10, api.OK)
		wantError(t, d, s, one('m'), 10, api.ErrOld)
		d.Crash(7)
		wantStart(t, s, one('m'), 10, api.OK)
		wantPicture(t, s, one('m'), 10)
	}
}

// P6.2: a picture that fills a slot to its last byte, and one that is a byte too long, of each age's size, in the one slot and in the other.
func TestFills(t *testing.T) {
	for _, age := range ages {
		for _, n := range []int{0, 1, 2, 100, 117, 118, 119, 120, 121, 122, 123, 124, 125, 126, 127, 128, 129, 130, 1000, 3991} {
			f := pictured(mixed(n, 1), age)
			for spare := -2; spare <= 2; spare++ {
				for _, ahead := range []bool{false, age > 0} {
					size := max(len(f)+spare, 7)
					d := disk.New(2*size + 2)
					s := open(t, d, 1, size)
					want, at, syncs := make([]byte, 2*size+2), 1, 0
					if ahead {
						wantSave(t, s, nil, 0, api.OK)
						copy(want[1:], pictured(nil, 0))
						at, syncs = 1+size, 2
					}
					if len(f) > size {
						wantError(t, d, s, mixed(n, 1), age, api.ErrFull)
						wantDisk(t, d, want, 0, syncs)
						continue
					}
					wantStart(t, s, mixed(n, 1), age, api.OK)
					copy(want[at:], f)
					wantDisk(t, d, want, len(f), syncs+1)
					wantPicture(t, s, mixed(n, 1), age)
				}
			}
		}
	}
}

// P6.2: what would be no payload is ErrFull, though there is room for its bytes; one of the greatest payload isn't.
func TestPayloadOfNone(t *testing.T) {
	for _, size := range []int{4006, 4007, 4008, 5000, mostDisk / 2} {
		for _, age := range ages {
			d := disk.New(2 * size)
			s := open(t, d, 0, size)
			longest := most - len(numBytes(age))
			for _, n := range []int{longest + 1, longest + 2, most, most + 1, 4096, 1 << 14, mostDisk, 1 << 17, 1 << 20} {
				wantError(t, d, s, make([]byte, n), age, api.ErrFull)
			}
			if size < 4007 {
				wantError(t, d, s, mixed(longest, 1), age, api.ErrFull)
				longest--
			}
			wantStart(t, s, mixed(longest, 1), age, api.OK)
			wantPicture(t, s, mixed(longest, 1), age)
			wantDisk(t, d, padded(pictured(mixed(longest, 1), age), 2*size), len(pictured(mixed(longest, 1), age)), 1)
		}
	}
}

// P6.2: slots of few bytes each: none has room for a picture below 7.
func TestSmall(t *testing.T) {
	for size := 1; size < 12; size++ {
		d := newDisk(t, bytes.Repeat(one(255), 2*size))
		s := open(t, d, 0, size)
		for n := range 12 {
			want := api.ErrFull
			if n+7 <= size {
				want = api.OK
			}
			if want != api.OK {
				wantError(t, d, s, mixed(n, 1), n, want)
				continue
			}
			wantSave(t, s, mixed(n, 1), n, want)
			wantPicture(t, s, mixed(n, 1), n)
		}
		if size < 7 {
			wantNone(t, s)
			wantDisk(t, d, bytes.Repeat(one(255), 2*size), 0, 1)
		}
	}
}

// P6.1, P6.2: slots that are the whole of the greatest disk, and such as end where it ends.
func TestWholeDisk(t *testing.T) {
	for _, x := range []struct{ disk, from, size int }{{14, 0, 7}, {15, 1, 7}, {2, 0, 1}, {mostDisk, 0, mostDisk / 2}, {mostDisk, 2, mostDisk/2 - 1}, {mostDisk, mostDisk - 14, 7}, {mostDisk, mostDisk - 2*4007, 4007}} {
		d := disk.New(x.disk)
		s := open(t, d, x.from, x.size)
		want := make([]byte, x.disk)
		for age := range 4 {
			n := min(x.size-7, most-1)
			if n >= 127 && !fits(n, age, x.size) {
				n--
			}
			if n < 0 {
				wantError(t, d, s, nil, age, api.ErrFull)
				continue
			}
			wantSave(t, s, mixed(n, age), age, api.OK)
			at := x.from + age%2*x.size
			clear(want[at : at+x.size])
			copy(want[at:], pictured(mixed(n, age), age))
			wantDisk(t, d, want, 0, 2*age+2)
			wantPicture(t, open(t, d, x.from, x.size), mixed(n, age), age)
		}
	}
}

// P6.2: nil slots.
func TestNil(t *testing.T) {
	var s *slots.Slots
	for range 2 {
		for _, age := range append(slices.Clone(noAges), ages...) {
			for _, b := range [][]byte{nil, {}, one('a'), make([]byte, most), make([]byte, most+1)} {
				wantStart(t, s, b, age, api.ErrArg)
				wantSave(t, s, b, age, api.ErrArg)
			}
		}
		wantNone(t, s)
	}
}

// ends are some of the numbers from 0 to n: all, if they are few, else those around the ends, and some between.
func ends(n int) []int {
	var l []int
	for k := 0; k <= n; k++ {
		if n < 300 || k < 20 || k > n-20 || k%97 == 0 {
			l = append(l, k)
		}
	}
	return l
}

// P6.3: behind a crash that keeps each number of a Start's bytes there is the picture that there was, or, just if all its frame's bytes last, the new one; whether the slots are opened again or not.
func TestCrashOfStart(t *testing.T) {
	for _, ahead := range []int{0, 1, 2, 3} { // so many were saved
		for _, n := range []int{0, 1, 3, 121, 122, 130, 3991, 3999} {
			age := ahead
			if n == 3991 || n == 121 {
				age = greatest // eight bytes
			}
			f := pictured(mixed(n, 9), age)
			for _, keep := range append(ends(len(f)), -1, math.MinInt, len(f)+1, math.MaxInt) {
				d := disk.New(2*(len(f)+9) + 6)
				s := open(t, d, 3, len(f)+9)
				for k := range ahead {
					wantSave(t, s, mixed(k, k), k, api.OK)
				}
				wantStart(t, s, mixed(n, 9), age, api.OK)
				d.Crash(keep)
				for range 2 {
					switch {
					case keep >= len(f):
						wantPicture(t, s, mixed(n, 9), age)
					case ahead == 0:
						wantNone(t, s)
					default:
						wantPicture(t, s, mixed(ahead-1, ahead-1), ahead-1)
					}
					s = open(t, d, 3, len(f)+9)
				}
				if keep >= len(f) {
					continue
				}
				wantSave(t, s, mixed(n, 8), age, api.OK) // goes on from there
				d.Crash(0)
				wantPicture(t, s, mixed(n, 8), age)
			}
		}
	}
}

// P6.3: of several Starts all but the last one last, whatever a crash keeps of that.
func TestCrashOfStarts(t *testing.T) {
	shapes := [][]byte{nil, one('a'), []byte("abc"), pictured(one('x'), 200), mixed(130, 1), make([]byte, 40), bytes.Repeat(one(1), 40), bytes.Repeat(pictured(nil, 77), 3)}
	for first := range shapes {
		for _, count := range []int{2, 3, 5} {
			last := shapes[(first+count-1)%len(shapes)]
			f := pictured(last, 10*count)
			for keep := range len(f) + 1 {
				d := disk.New(400)
				s := open(t, d, 10, 180)
				for k := range count {
					wantStart(t, s, shapes[(first+k)%len(shapes)], 10*(k+1), api.OK)
				}
				if d.Waits() != len(f) || d.Syncs() != count {
					t.Error("waits", d.Waits(), "syncs", d.Syncs())
				}
				d.Crash(keep)
				if keep == len(f) {
					wantPicture(t, s, last, 10*count)
				} else {
					wantPicture(t, s, shapes[(first+count-2)%len(shapes)], 10*(count-1))
				}
			}
		}
	}
}

// P6.3: whatever was torn there ahead, by one crash or by several, a later picture is there just if all its frame's bytes last.
func TestTornAhead(t *testing.T) {
	nested := slices.Concat(make([]byte, 5), pictured(one('x'), 300), pictured([]byte("zz"), 400), one(1))
	shapes := [][]byte{one('a'), one('b'), []byte("abc"), nested, mixed(130, 1), make([]byte, 40), bytes.Repeat(one(1), 40)}
	for _, torn := range shapes {
		for _, later := range shapes {
			for kept := range len(pictured(torn, 2)) {
				all := len(pictured(later, 3))
				for _, keep := range []int{0, 1, 2, all / 2, all - 1, all} {
					d := disk.New(320)
					s := open(t, d, 10, 150)
					wantSave(t, s, one('s'), 1, api.OK)
					wantStart(t, s, torn, 2, api.OK)
					d.Crash(kept)
					wantPicture(t, s, one('s'), 1)
					if kept%2 == 0 {
						s = open(t, d, 10, 150)
					}
					wantStart(t, s, later, 3, api.OK)
					d.Crash(keep)
					if keep == all {
						wantPicture(t, s, later, 3)
					} else {
						wantPicture(t, s, one('s'), 1)
					}
				}
			}
		}
	}
}

// P6.3: a picture that is torn again and again is there once all its frame's bytes last.
func TestTornAgain(t *testing.T) {
	p := mixed(30, 1)
	all := len(pictured(p, 7))
	d := disk.New(100)
	wantSave(t, open(t, d, 0, 50), one('s'), 6, api.OK)
	for keep := range 2 * all {
		s := open(t, d, 0, 50)
		wantPicture(t, s, one('s'), 6)
		wantStart(t, s, p, 7, api.OK)
		d.Crash(keep * 5 % all)
	}
	s := open(t, d, 0, 50)
	wantStart(t, s, p, 7, api.OK)
	d.Crash(all)
	for range 3 {
		wantPicture(t, open(t, d, 0, 50), p, 7)
		d.Crash(0)
	}
}

// P6.3: the slots of both alike: a Start writes the second one, and torn it leaves the first one's picture.
func TestCrashOfAlike(t *testing.T) {
	f := pictured([]byte("new"), 8)
	for keep := range len(f) + 1 {
		b := slices.Concat(padded(pictured(one('x'), 7), 20), padded(pictured(one('y'), 7), 20))
		d := newDisk(t, b)
		s := open(t, d, 0, 20)
		wantPicture(t, s, one('x'), 7)
		wantStart(t, s, []byte("new"), 8, api.OK)
		d.Crash(keep)
		copy(b[20:], padded(f[:keep], 20))
		wantDisk(t, d, b, 0, 2)
		if keep == len(f) {
			wantPicture(t, s, []byte("new"), 8)
		} else {
			wantPicture(t, s, one('x'), 7)
		}
	}
}

// Slots beside each other leave each other alone.
func TestBeside(t *testing.T) {
	d := disk.New(80)
	first := open(t, d, 0, 20)
	second := open(t, d, 40, 20)
	wantSave(t, first, one('a'), 1, api.OK)
	wantNone(t, second)
	wantSave(t, second, one('b'), 1, api.OK)
	wantStart(t, first, mixed(13, 1), 2, api.OK) // up to the last byte
	wantStart(t, second, mixed(13, 2), 2, api.OK)
	d.Crash(19)
	wantPicture(t, first, mixed(13, 1), 2)
	wantPicture(t, second, one('b'), 1)
	wantSave(t, second, mixed(13, 2), 2, api.OK)
	want := slices.Concat(padded(pictured(one('a'), 1), 20), pictured(mixed(13, 1), 2), padded(pictured(one('b'), 1), 20), pictured(mixed(13, 2), 2))
	wantDisk(t, d, want, 0, 8)
}

// words is a disk with slots, as the chapters' words say, byte by byte.
type words struct {
	lasts      []byte
	places     []int // of the bytes that wait
	waits      []byte
	syncs      int
	from, size int
}

func (w *words) read() []byte {
	b := bytes.Clone(w.lasts)
	for i, at := range w.places {
		b[at] = w.waits[i]
	}
	return b
}

func (w *words) write(at int, b []byte) {
	for i, c := range b {
		w.places, w.waits = append(w.places, at+i), append(w.waits, c)
	}
}

func (w *words) crash(keep int) {
	for i, at := range w.places[:min(max(keep, 0), len(w.places))] {
		w.lasts[at] = w.waits[i]
	}
	w.places, w.waits = nil, nil
}

func (w *words) sync() {
	w.crash(len(w.places))
	w.syncs++
}

// picture is what there is, and whether the second slot has it.
func (w *words) picture() (p []byte, age int, ok, second bool) {
	b := w.read()[w.from:]
	p, age, ok = has(b[:w.size])
	q, other, may := has(b[w.size : 2*w.size])
	if may && (!ok || other > age) {
		return q, other, true, true
	}
	return p, age, ok, false
}

func (w *words) start(b []byte, age int) api.Errno {
	_, is, ok, second := w.picture()
	switch {
	case age < 0 || age > greatest:
		return api.ErrArg
	case ok && age <= is:
		return api.ErrOld
	case !fits(len(b), age, w.size):
		return api.ErrFull
	}
	at := w.from
	if ok && !second {
		at += w.size
	}
	w.sync()
	clear(w.lasts[at : at+w.size])
	w.write(at, pictured(b, age))
	return api.OK
}

func (w *words) save(b []byte, age int) api.Errno {
	e := w.start(b, age)
	if e == api.OK {
		w.sync()
	}
	return e
}

// both is a disk with slots, and what the words say of it.
type both struct {
	d *disk.Disk
	s *slots.Slots
	w *words
}

func newBoth(t *testing.T, b []byte, from, size int) *both {
	t.Helper()
	return &both{d: newDisk(t, b), w: &words{lasts: bytes.Clone(b), syncs: 1, from: from, size: size}}
}

// step is something that is done to slots, or their disk.
type step struct {
	what   string
	n, age int
	p      []byte
}

func (x *both) do(t *testing.T, s step) {
	t.Helper()
	if x.s == nil || s.what == "open" {
		x.s = open(t, x.d, x.w.from, x.w.size)
	}
	switch s.what {
	case "start":
		wantStart(t, x.s, s.p, s.age, x.w.start(s.p, s.age))
	case "save":
		wantSave(t, x.s, s.p, s.age, x.w.save(s.p, s.age))
	case "crash":
		x.d.Crash(s.n)
		x.w.crash(s.n)
	case "sync": // of the disk, by whom it is
		x.d.Sync()
		x.w.sync()
	case "write": // likewise
		x.d.Write(s.n, s.p)
		x.w.write(s.n, s.p)
	}
	if p, age, ok, _ := x.w.picture(); ok {
		wantPicture(t, x.s, p, age)
	} else {
		wantNone(t, x.s)
	}
	wantDisk(t, x.d, x.w.read(), len(x.w.waits), x.w.syncs)
}

// P6.1 to P6.3: each run of few steps of small slots is what the words say, from several disks on.
func TestEveryRun(t *testing.T) {
	steps := []step{{what: "open"}, {what: "sync"}}
	for _, n := range []int{-1, 0, 1, 6, 7, 8, 9, 10} {
		steps = append(steps, step{what: "crash", n: n})
	}
	for _, age := range []int{-1, 0, 1, 2, 128} {
		steps = append(steps, step{what: "start", age: age, p: one('a')})
	}
	for _, x := range []step{{age: 1}, {age: 2, p: []byte("bcd")}, {age: 3, p: []byte("bcde")}, {age: 3, p: []byte{1, 1}}, {age: greatest}} {
		steps = append(steps, step{what: "start", age: x.age, p: x.p}, step{what: "save", age: x.age, p: x.p})
	}
	for _, b := range [][]byte{
		make([]byte, 24),
		bytes.Repeat(one(255), 24),
		slices.Concat([]byte{9, 9}, padded(pictured(one('x'), 1), 10), padded(pictured(one('y'), 1), 10), []byte{9, 9}),
		slices.Concat([]byte{9, 9}, padded(nil, 10), pictured([]byte("two"), 0), []byte{9, 9}),
	} {
		for run := range len(steps) * len(steps) * len(steps) {
			x := newBoth(t, b, 2, 10)
			var trace []step
			for left := run; len(trace) < 3; left /= len(steps) {
				trace = append(trace, steps[left%len(steps)])
			}
			for _, s := range trace {
				x.do(t, s)
			}
			if t.Failed() {
				t.Fatal("run", trace)
			}
		}
	}
}

// chance is a plain row of numbers, the same one each time.
type chance uint64

func (c *chance) below(n int) int {
	*c = *c*6364136223846793005 + 1442695040888963407
	return int(uint64(*c) >> 33 % uint64(n))
}

// anyStep is a step of any kind: mostly what writes, of ages about the one that there is.
func (c *chance) anyStep(k, longest, waits int, w *words) step {
	_, age, _, _ := w.picture()
	age += c.below(5) - 1
	switch n := c.below(16); {
	case n < 5:
		return step{what: "start", age: age, p: mixed(c.below(longest), k)}
	case n < 9:
		return step{what: "save", age: age, p: mixed(c.below(longest), k)}
	case n < 13:
		return step{what: "crash", n: c.below(waits+3) - 1}
	case n < 15:
		return step{what: "open"}
	case c.below(2) == 0:
		return step{what: "sync"}
	}
	slot := w.from + c.below(2)*w.size
	if f := pictured(mixed(c.below(3), k), max(age, 0)); len(f) <= w.size && c.below(4) > 0 {
		return step{what: "write", n: slot, p: f}
	}
	return step{what: "write", n: slot + c.below(w.size), p: mixed(1, k)}
}

// P6.1 to P6.3: long runs of slots of all sizes are what the words say.
func TestLongRuns(t *testing.T) {
	c := chance(1)
	for _, x := range []struct{ disk, from, size, longest, steps int }{
		{2, 0, 1, 3, 50}, {14, 0, 7, 3, 500}, {20, 5, 7, 3, 500}, {64, 1, 31, 30, 3000}, {300, 40, 130, 140, 3000}, {1000, 0, 250, 20, 1000}, {9000, 1000, 4000, 4003, 200}, {mostDisk, 0, mostDisk / 2, 4003, 30},
	} {
		y := newBoth(t, make([]byte, x.disk), x.from, x.size)
		for k := range x.steps {
			s := c.anyStep(k, x.longest, len(y.w.waits), y.w)
			if y.do(t, s); t.Failed() {
				t.Fatalf("slots of %d on %d, step %d: %s %d %d %d", x.size, x.disk, k, s.what, s.n, s.age, len(s.p))
			}
		}
	}
}

// Rule 4: what is handed in is neither changed nor kept, its spare room included.
func TestHandedIn(t *testing.T) {
	room := mixed(300, 1)
	was := bytes.Clone(room)
	d := disk.New(900)
	s := open(t, d, 0, 200)
	wantStart(t, s, room[1:4:9], 1, api.OK)
	wantSave(t, s, room[10:138], 2, api.OK)
	wantStart(t, s, room[:0], 3, api.OK)
	wantStart(t, s, room[20:21], 4, api.OK)
	wantStart(t, s, room[:50], 4, api.ErrOld)
	wantStart(t, s, room[:50], -1, api.ErrArg)
	wantStart(t, s, room[:250], 5, api.ErrFull)
	if !bytes.Equal(room, was) {
		t.Error("changed")
	}
	clear(room) // by its owner
	wantPicture(t, s, was[20:21], 4)
	copy(room, was)
	wantStart(t, s, room[30:180], 5, api.OK)
	clear(room)
	wantPicture(t, s, was[30:180], 5)
	d.Sync()
	wantPicture(t, s, was[30:180], 5)
}

// Rule 4: a picture that is answered is new memory, its spare room too; what is done later doesn't change it.
func TestHandedOut(t *testing.T) {
	all := mixed(20, 1)
	d := newDisk(t, padded(pictured(all, 300), 100))
	s := open(t, d, 0, 50)
	want := d.Bytes()
	first, _, _ := s.Load()
	second, _, _ := s.Load()
	full := first[:cap(first)]
	for i := range full {
		full[i] = 99
	}
	_ = append(first[:3], 99, 99, 99)
	if !bytes.Equal(second, all) {
		t.Error("two answers share")
	}
	wantPicture(t, s, all, 300)
	wantDisk(t, d, want, 0, 1)
	wantSave(t, s, []byte("later"), 301, api.OK)
	wantSave(t, s, []byte("latest"), 302, api.OK)
	if !bytes.Equal(second, all) {
		t.Error("an answer was changed later")
	}
}

// Rule 6: slots of two disks don't hang on each other, nor an answer on what was asked ahead.
func TestApart(t *testing.T) {
	first, other := disk.New(40), disk.New(40)
	x, y := open(t, first, 0, 20), open(t, other, 0, 20)
	wantStart(t, x, one('a'), 5, api.OK)
	wantNone(t, y)
	wantSave(t, y, []byte("bc"), 3, api.OK)
	for range 3 {
		wantPicture(t, x, one('a'), 5)
		wantPicture(t, y, []byte("bc"), 3)
	}
	first.Crash(0)
	wantNone(t, x)
	wantPicture(t, y, []byte("bc"), 3)
	wantStart(t, x, one('d'), 0, api.OK)
	wantDisk(t, other, padded(pictured([]byte("bc"), 3), 40), 0, 2)
}
