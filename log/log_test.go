package log_test

import (
	"bytes"
	"hash/crc32"
	"math"
	"slices"
	"testing"

	"dunnage/api"
	"dunnage/disk"
	"dunnage/log"
)

const (
	most     = 4000  // bytes of a payload
	mostDisk = 65536 // bytes of a disk
	tail     = 5     // bytes of a frame behind its payload
)

// sizes are those of payloads around each end, around the place where their number needs one byte more, and some between.
var sizes = []int{1, 2, 3, 7, 126, 127, 128, 129, 300, 3999, 4000}

// numBytes is a number's bytes, as layer 1's words say.
func numBytes(n int) []byte {
	var b []byte
	for ; n >= 128; n /= 128 {
		b = append(b, byte(n%128+128))
	}
	return append(b, byte(n))
}

// framed is a payload's frame, as layer 3's words say.
func framed(p []byte) []byte {
	n := crc32.ChecksumIEEE(p)
	return slices.Concat(numBytes(len(p)), p, []byte{byte(n >> 24), byte(n >> 16), byte(n >> 8), byte(n), 1})
}

// laid is the frames of payloads, one behind the other.
func laid(l ...[]byte) []byte {
	var b []byte
	for _, p := range l {
		b = append(b, framed(p)...)
	}
	return b
}

// frameSize is how many bytes the frame of a payload of n bytes has.
func frameSize(n int) int { return len(numBytes(n)) + n + tail }

// mixed is n bytes of which each value comes, in no plain order, other ones for each seed.
func mixed(n, seed int) []byte {
	b := make([]byte, n)
	for i := range b {
		b[i] = byte(i*i*7 + i*13 + i>>8 + seed*31 + 5)
	}
	return b
}

// whole is what stands at the start of bytes: the payload of a frame, asked of each number of bytes that it may have.
func whole(b []byte) ([]byte, bool) {
	for n := 1; n <= most && frameSize(n) <= len(b); n++ {
		number := numBytes(n)
		if !bytes.HasPrefix(b, number) {
			continue
		}
		p := b[len(number) : len(number)+n]
		return p, bytes.HasPrefix(b, framed(p))
	}
	return nil, false
}

// standing is the payloads of the frames that stand one behind the other from the start of bytes on, and where they end.
func standing(b []byte) ([][]byte, int) {
	var l [][]byte
	end := 0
	for {
		p, ok := whole(b[end:])
		if !ok {
			return l, end
		}
		l, end = append(l, p), end+frameSize(len(p))
	}
}

// one is a payload of one byte.
func one(c byte) []byte { return []byte{c} }

func list(l ...[]byte) [][]byte { return l }

func newDisk(t *testing.T, b []byte) *disk.Disk {
	t.Helper()
	d := disk.New(len(b))
	if d == nil || d.Write(0, b) != api.OK {
		t.Fatal("no disk of", len(b))
	}
	d.Sync()
	return d
}

// open opens a log, and wants these records.
func open(t *testing.T, d *disk.Disk, from, size int, want ...[]byte) *log.Log {
	t.Helper()
	l, got, e := log.Open(d, from, size)
	if e != api.OK || l == nil {
		t.Fatalf("Open(%d, %d) of a disk of %d: %d", from, size, d.Size(), e)
	}
	if !slices.EqualFunc(got, want, bytes.Equal) {
		t.Fatalf("Open(%d, %d): records % .200x, not % .200x", from, size, got, want)
	}
	wantUsed(t, l, len(laid(want...)))
	return l
}

func wantUsed(t *testing.T, l *log.Log, want int) {
	t.Helper()
	if got := l.Used(); got != want {
		t.Errorf("used %d, not %d", got, want)
	}
}

func wantPut(t *testing.T, l *log.Log, p []byte, want api.Errno) {
	t.Helper()
	if got := l.Put(p); got != want {
		t.Errorf("Put of %d bytes: %d, not %d", len(p), got, want)
	}
}

func wantAppend(t *testing.T, l *log.Log, p []byte, want api.Errno) {
	t.Helper()
	if got := l.Append(p); got != want {
		t.Errorf("Append of %d bytes: %d, not %d", len(p), got, want)
	}
}

// wantDisk wants bytes, as they are read, and how many of them wait.
func wantDisk(t *testing.T, d *disk.Disk, want []byte, waits, syncs int) {
	t.Helper()
	got := d.Bytes()
	if !bytes.Equal(got, want) {
		t.Errorf("bytes % .300x, not % .300x", got, want)
	}
	if d.Waits() != waits || d.Syncs() != syncs {
		t.Errorf("waits %d syncs %d, not %d and %d", d.Waits(), d.Syncs(), waits, syncs)
	}
}

// padded is bytes, and noughts behind them up to a size.
func padded(b []byte, size int) []byte {
	return append(bytes.Clone(b), make([]byte, size-len(b))...)
}

// The chapter's own example.
func TestExample(t *testing.T) {
	for keep, want := range map[int][][]byte{6: list(one('a')), 7: list(one('a'), one('b'))} {
		d := disk.New(40)
		l := open(t, d, 0, 40)
		wantAppend(t, l, one('a'), api.OK)
		wantPut(t, l, one('b'), api.OK)
		d.Crash(keep)
		open(t, d, 0, 40, want...)
	}
}

// pieces are places and sizes on a disk of 64 bytes: all of it, of one byte, up to its end, and some between.
func pieces() [][2]int {
	return [][2]int{{0, 64}, {0, 1}, {0, 63}, {1, 63}, {1, 62}, {63, 1}, {62, 2}, {32, 32}, {20, 7}, {20, 8}, {31, 1}, {57, 7}}
}

// P5.1: a log of each piece of an empty disk has no records; the disk is synced, its other bytes too.
func TestOpenEmpty(t *testing.T) {
	for _, x := range pieces() {
		d := disk.New(64)
		l := open(t, d, x[0], x[1])
		wantDisk(t, d, make([]byte, 64), 0, 1)
		wantUsed(t, l, 0)
		if got, want := l.Room(1), x[1] >= 7; got != want {
			t.Errorf("%d: room for a byte %v, not %v", x, got, want)
		}
	}
	d := disk.New(mostDisk)
	open(t, d, 0, mostDisk)
	open(t, d, mostDisk-1, 1)
	wantDisk(t, d, make([]byte, mostDisk), 0, 2)
}

// P5.1: all bytes of the piece behind its records are made 0, and last; the bytes ahead of the piece and behind it stay.
func TestOpenMakesNoughts(t *testing.T) {
	for _, x := range pieces() {
		from, end := x[0], x[0]+x[1]
		b := bytes.Repeat(one(255), 64) // no frame
		d := newDisk(t, b)
		if from > 0 {
			d.Write(from-1, one(77)) // it waits, and isn't the log's
			b[from-1] = 77
		}
		open(t, d, from, x[1])
		clear(b[from:end])
		wantDisk(t, d, b, 0, 2)
		d.Crash(0)
		wantDisk(t, d, b, 0, 2)
	}
}

// P5.1: the records are the frames that are whole, up to what is none.
func TestOpenRecords(t *testing.T) {
	two := list(one('a'), []byte("bcd"))
	for _, x := range []struct {
		piece []byte
		want  [][]byte
	}{
		{laid(two...), two}, // up to the last byte
		{padded(laid(two...), 30), two},
		{append(laid(two...), 9), two},
		{slices.Concat(laid(two...), one(0), laid(one('z'))), two}, // a nought, and a frame behind it
		{slices.Concat(laid(two...), framed([]byte("torn"))[:9], make([]byte, 9)), two}, // all but the last byte
		{slices.Concat(laid(two...), framed([]byte("torn"))[:1], make([]byte, 9)), two},
		{slices.Concat(laid(two...), framed([]byte("torn"))[:4], laid(one('z'))), two}, // torn, and a frame behind it
		{slices.Concat(laid(two...), one(3), laid(one('z'))), two},
		{slices.Concat(one(0), laid(two...)), nil},
		{slices.Concat(one(5), laid(two...)), nil},
		{laid(two...)[:15], list(one('a'))}, // its last frame goes on behind the piece
		{laid(two...)[:7], list(one('a'))},
		{laid(two...)[:6], nil},
		{slices.Concat(laid(mixed(127, 1), mixed(128, 2), one(0)), one(1)), list(mixed(127, 1), mixed(128, 2), one(0))},
		{laid(mixed(4000, 1), mixed(4000, 2)), list(mixed(4000, 1), mixed(4000, 2))},
		{append(laid(one('a')), padded(framed(mixed(4001, 1)), 4100)...), list(one('a'))},
		{laid(laid(two...), one('z')), list(laid(two...), one('z'))}, // frames within a payload
	} {
		for _, around := range [][2][]byte{{nil, nil}, {one(1), one(1)}, {laid(one('x')), laid(one('y'))}, {mixed(9, 1), framed([]byte("bcd"))[1:]}} {
			d := newDisk(t, slices.Concat(around[0], x.piece, around[1]))
			from, size := len(around[0]), len(x.piece)
			kept := slices.Concat(around[0], padded(laid(x.want...), size), around[1])
			open(t, d, from, size, x.want...)
			wantDisk(t, d, kept, 0, 2)
			open(t, d, from, size, x.want...)
			d.Crash(0)
			open(t, d, from, size, x.want...)
			wantDisk(t, d, kept, 0, 4)
		}
	}
}

// P5.1: a frame that goes on where the piece ends is none of its records, though all its bytes are on the disk.
func TestOpenEndsWithPiece(t *testing.T) {
	p := mixed(200, 1)
	for size := 1; size <= 209; size++ {
		d := newDisk(t, padded(append(one(9), laid(p)...), 250))
		b := d.Bytes()
		if size < frameSize(200) {
			clear(b[1 : 1+size])
			open(t, d, 1, size)
		} else {
			open(t, d, 1, size, p)
		}
		wantDisk(t, d, b, 0, 2)
	}
}

// P5.1: what waits is read as if it lasted, and does so then.
func TestOpenOfWaiting(t *testing.T) {
	d := disk.New(40)
	l := open(t, d, 3, 30)
	wantPut(t, l, one('a'), api.OK)
	wantPut(t, l, one('b'), api.OK)
	d.Write(0, []byte{1, 2})
	d.Write(35, []byte{3, 4})
	open(t, d, 3, 30, one('a'), one('b'))
	d.Crash(0)
	open(t, d, 3, 30, one('a'), one('b'))
	wantDisk(t, d, padded(slices.Concat([]byte{1, 2, 0}, laid(one('a'), one('b')), make([]byte, 18), []byte{3, 4}), 40), 0, 3)
}

// P5.1: pieces that aren't on the disk, all of them: ErrArg, no log, no records, and nothing is done to the disk.
func TestOpenOfNone(t *testing.T) {
	b := append(laid(one('a')), mixed(43, 1)...)
	d := newDisk(t, b)
	d.Write(49, one(200))
	b[49] = 200
	for _, x := range [][2]int{
		{-1, 1}, {-1, 2}, {-1, 51}, {-50, 50}, {-7, 7}, {math.MinInt, 1}, {math.MinInt, math.MinInt}, {math.MinInt + 1, math.MaxInt},
		{0, 0}, {7, 0}, {50, 0}, {51, 0}, {0, -1}, {50, -1}, {51, -1}, {50, -50}, {0, math.MinInt}, {0, math.MinInt + 1}, {50, math.MinInt}, {math.MaxInt, math.MinInt}, {math.MaxInt, -1}, {-1, 0},
		{0, 51}, {1, 50}, {49, 2}, {50, 1}, {51, 1}, {100, 1}, {0, mostDisk}, {0, math.MaxInt}, {1, math.MaxInt}, {50, math.MaxInt},
		{math.MaxInt, 1}, {math.MaxInt, 50}, {math.MaxInt, math.MaxInt}, {math.MaxInt - 1, 2}, {math.MaxInt - 6, 7}, {1 << 62, 1 << 62}, {1 << 32, 50}, {1<<32 + 7, 7}, {7, 1<<32 + 7}, {1 << 62, 5},
	} {
		for _, y := range []*disk.Disk{d, nil} {
			if l, p, e := log.Open(y, x[0], x[1]); e != api.ErrArg || l != nil || len(p) != 0 {
				t.Errorf("Open(%d): %v %v %d", x, l, p, e)
			}
		}
	}
	for _, x := range [][2]int{{0, 1}, {0, 50}, {5, 5}} {
		if l, p, e := log.Open(nil, x[0], x[1]); e != api.ErrArg || l != nil || len(p) != 0 {
			t.Errorf("Open(nil, %d): %v %v %d", x, l, p, e)
		}
	}
	wantDisk(t, d, b, 1, 1)
}

// P5.2: a record is its frame, right behind those ahead; it isn't synced, and all else stays.
func TestPut(t *testing.T) {
	for _, n := range sizes {
		b := mixed(9000, 3)
		b[10] = 0
		d := newDisk(t, b)
		l := open(t, d, 10, 8900)
		clear(b[10:8910])
		wantDisk(t, d, b, 0, 2)
		end, waits := 10, 0
		for k := range 2 {
			f := framed(mixed(n, k))
			wantPut(t, l, mixed(n, k), api.OK)
			end, waits = end+copy(b[end:], f), waits+len(f)
			wantDisk(t, d, b, waits, 2)
			wantUsed(t, l, end-10)
		}
		open(t, d, 10, 8900, mixed(n, 0), mixed(n, 1))
		wantDisk(t, d, b, 0, 3)
	}
}

// P5.2: records of all kinds, one behind the other, put and appended in turn, are there, in their order.
func TestRecordsInOrder(t *testing.T) {
	var l [][]byte
	for k, n := range sizes {
		l = append(l, mixed(n, k), make([]byte, n), bytes.Repeat(one(1), n), bytes.Repeat(one(255), n))
	}
	l = append(l, laid(one('a')), framed([]byte("abc"))[:7], one('a'), one('a'))
	size := len(laid(l...))
	d := disk.New(size + 30)
	x := open(t, d, 30, size)
	for k, p := range l {
		if k%3 == 0 {
			wantAppend(t, x, p, api.OK)
		} else {
			wantPut(t, x, p, api.OK)
		}
		wantUsed(t, x, len(laid(l[:k+1]...)))
	}
	wantPut(t, x, one('z'), api.ErrFull)
	open(t, d, 30, size, l...)
	if !bytes.Equal(d.Bytes(), append(make([]byte, 30), laid(l...)...)) {
		t.Error("other bytes than the records' frames")
	}
}

// P5.2: what is no payload is ErrArg, in a log without room too; what has no room is ErrFull; nothing is done then, nor synced.
func TestPutOfNone(t *testing.T) {
	for _, size := range []int{4100, 14, 7, 1} {
		d := disk.New(size + 10)
		l := open(t, d, 5, size)
		waits := 0
		if l.Put(one('a')) == api.OK {
			waits = 7
		}
		was, used := d.Bytes(), l.Used()
		for _, p := range [][]byte{nil, {}, make([]byte, 0, 9), make([]byte, 4001), mixed(4002, 1), mixed(4128, 1), mixed(8000, 1), make([]byte, 16384), make([]byte, 1<<17)} {
			wantPut(t, l, p, api.ErrArg)
			wantAppend(t, l, p, api.ErrArg)
		}
		for _, p := range [][]byte{make([]byte, 4000), mixed(4000, 1)} { // none of the pieces has room for one behind the first
			if size < frameSize(4000)+7 {
				wantPut(t, l, p, api.ErrFull)
				wantAppend(t, l, p, api.ErrFull)
			}
		}
		wantDisk(t, d, was, waits, 1)
		wantUsed(t, l, used)
	}
}

// P5.2: a record that fills the piece to its last byte, and one that is a byte too long; with records ahead, and without; Room says the same.
func TestFills(t *testing.T) {
	for _, n := range append([]int{125, 130, 255, 256, 257}, sizes...) {
		for _, ahead := range [][][]byte{nil, list(one('a')), list(mixed(128, 1), one('a'))} {
			used := len(laid(ahead...))
			for _, spare := range []int{-2, -1, 0, 1, 2} {
				size := used + frameSize(n) + spare
				d := disk.New(size + 20)
				l := open(t, d, 10, size)
				for _, p := range ahead {
					wantAppend(t, l, p, api.OK)
				}
				want, records := api.OK, append(slices.Clone(ahead), mixed(n, 2))
				if spare < 0 {
					want, records = api.ErrFull, ahead
				}
				if l.Room(n) != (spare >= 0) {
					t.Errorf("%d bytes, %d ahead, %d to spare: Room %v", n, used, spare, l.Room(n))
				}
				wantPut(t, l, mixed(n, 2), want)
				wantUsed(t, l, len(laid(records...)))
				if spare >= 0 {
					wantPut(t, l, one('z'), api.ErrFull)
				}
				open(t, d, 10, size, records...)
				wantDisk(t, d, slices.Concat(make([]byte, 10), padded(laid(records...), size), make([]byte, 10)), 0, 2+len(ahead))
			}
		}
	}
}

// P5.2: pieces up to where the disk ends, and of the greatest disk, are filled to their last byte.
func TestFillsDisk(t *testing.T) {
	for _, x := range []struct{ disk, from int }{{7, 0}, {8, 1}, {70, 0}, {100, 30}, {mostDisk, 0}, {mostDisk, 1}, {mostDisk, mostDisk - 7}, {mostDisk, mostDisk - 4007}} {
		d := disk.New(x.disk)
		size := x.disk - x.from
		l := open(t, d, x.from, size)
		var records [][]byte
		for l.Room(1) && len(records) < 20 {
			n := min(size-l.Used()-6, most)
			if !l.Room(n) {
				n-- // its number needs a byte more
			}
			records = append(records, mixed(n, len(records)))
			wantPut(t, l, records[len(records)-1], api.OK)
		}
		if rest := size - l.Used(); rest > 6 {
			t.Error("not filled:", rest)
		}
		wantPut(t, l, one('z'), api.ErrFull)
		wantAppend(t, l, one('z'), api.ErrFull)
		open(t, d, x.from, size, records...)
		l.Clear()
		open(t, d, x.from, size)
	}
	d := disk.New(mostDisk)
	l := open(t, d, 0, mostDisk)
	n := 0
	for ; n < mostDisk && l.Append(one(byte(n))) == api.OK; n++ {
	}
	if n != mostDisk/7 || l.Used() != n*7 {
		t.Error("records", n, "used", l.Used())
	}
}

// P5.2: an appended record lasts, and those that were put ahead of it.
func TestAppend(t *testing.T) {
	for _, n := range sizes {
		d := disk.New(9000)
		l := open(t, d, 4, 8996)
		wantAppend(t, l, mixed(n, 1), api.OK)
		wantDisk(t, d, padded(append(make([]byte, 4), laid(mixed(n, 1))...), 9000), 0, 2)
		d.Crash(0)
		wantUsed(t, l, frameSize(n))
		d.Write(0, one(9)) // not the log's
		wantPut(t, l, one('a'), api.OK)
		wantPut(t, l, one('b'), api.OK)
		wantDisk(t, d, padded(append([]byte{9, 0, 0, 0}, laid(mixed(n, 1), one('a'), one('b'))...), 9000), 15, 2)
		wantAppend(t, l, nil, api.ErrArg)
		wantAppend(t, l, make([]byte, 4001), api.ErrArg)
		if d.Waits() != 15 || d.Syncs() != 2 {
			t.Error("synced beside an error")
		}
		wantAppend(t, l, one('c'), api.OK)
		wantDisk(t, d, padded(append([]byte{9, 0, 0, 0}, laid(mixed(n, 1), one('a'), one('b'), one('c'))...), 9000), 0, 3)
		d.Crash(0)
		open(t, d, 4, 8996, mixed(n, 1), one('a'), one('b'), one('c'))
	}
}

// P5.2: Room is true just of those numbers of bytes whose payloads Put would take.
func TestRoom(t *testing.T) {
	for _, size := range []int{1, 6, 7, 8, 132, 133, 134, 135, 136, 137, 140, 150, 4006, 4007, 4013, 4014, 8014, 20000} {
		d := disk.New(size)
		l := open(t, d, 0, size)
		for range 2 {
			left := size - l.Used()
			for _, n := range []int{math.MinInt, math.MinInt + 1, -4000, -128, -7, -6, -2, -1, 0, 4001, 4002, 4096, 1 << 14, mostDisk, 1 << 32, 1<<32 + 1, 1 << 53, 1 << 62, math.MaxInt - 7, math.MaxInt - 1, math.MaxInt} {
				if l.Room(n) {
					t.Errorf("%d bytes left: room for %d, which is none", left, n)
				}
			}
			for n := 1; n <= most; n++ {
				if l.Room(n) != (frameSize(n) <= left) {
					t.Errorf("%d bytes left: room for %d %v", left, n, l.Room(n))
				}
			}
			if l.Used() != size-left || d.Waits() != size-left {
				t.Error("a question changed something")
			}
			l.Put(one('a'))
		}
	}
}

// P5.3: Clear leaves no records, noughts on all the piece, that last, and all else as it was; what was put ahead doesn't come back.
func TestClear(t *testing.T) {
	for _, x := range [][2]int{{0, 300}, {5, 290}, {10, 290}, {0, 22}, {278, 22}, {100, 23}} {
		b := mixed(300, 5)
		b[x[0]] = 0
		d := newDisk(t, b)
		l := open(t, d, x[0], x[1])
		clear(b[x[0] : x[0]+x[1]])
		wantAppend(t, l, one('a'), api.OK)
		wantPut(t, l, []byte("bcdefghij"), api.OK)
		if x[0] > 0 {
			d.Write(x[0]-1, one(7))
			b[x[0]-1] = 7
		}
		l.Clear()
		wantDisk(t, d, b, 0, 4)
		wantUsed(t, l, 0)
		d.Crash(0)
		wantDisk(t, d, b, 0, 4)
		open(t, d, x[0], x[1])
		l = open(t, d, x[0], x[1])
		l.Clear()
		l.Clear() // of nothing
		wantDisk(t, d, b, 0, 8)
		wantAppend(t, l, one('z'), api.OK)
		wantUsed(t, l, 7)
		open(t, d, x[0], x[1], one('z'))
	}
}

// P5.3: a piece that is full has all its room again behind Clear; of one byte nothing is ever used.
func TestClearMakesRoom(t *testing.T) {
	d := disk.New(4007)
	l := open(t, d, 0, 4007)
	for k := range 5 {
		wantPut(t, l, mixed(4000, k), api.OK)
		wantUsed(t, l, 4007)
		wantPut(t, l, one('a'), api.ErrFull)
		l.Clear()
		wantUsed(t, l, 0)
		if !l.Room(4000) {
			t.Error("no room")
		}
	}
	small := open(t, disk.New(1), 0, 1)
	wantPut(t, small, one('a'), api.ErrFull)
	small.Clear()
	wantUsed(t, small, 0)
}

// P5.3: a nil log.
func TestNil(t *testing.T) {
	var l *log.Log
	for range 2 {
		for _, p := range [][]byte{nil, {}, one('a'), make([]byte, 4000), make([]byte, 4001)} {
			wantPut(t, l, p, api.ErrArg)
			wantAppend(t, l, p, api.ErrArg)
		}
		for _, n := range []int{math.MinInt, -1, 0, 1, 4000, 4001, math.MaxInt} {
			if l.Room(n) {
				t.Error("room for", n)
			}
		}
		l.Clear()
		wantUsed(t, l, 0)
	}
}

// ends are some of the numbers from 0 to n: all, if they are few, else those around the ends, and each seventh.
func ends(n int) []int {
	var l []int
	for k := 0; k <= n; k++ {
		if n < 300 || k < 20 || k > n-20 || k%97 == 0 {
			l = append(l, k)
		}
	}
	return l
}

// lasting is those of some records that were put, all of whose bytes last behind a crash that keeps so many.
func lasting(l [][]byte, keep int) [][]byte {
	k := 0
	for k < len(l) && len(laid(l[:k+1]...)) <= keep {
		k++
	}
	return l[:k]
}

// P5.4: behind a crash that keeps each number of a Put's bytes, and Open, there are the records that were synced, and that one just if all its bytes last.
func TestCrashOfPut(t *testing.T) {
	for _, synced := range [][][]byte{nil, list(one('a')), list(one('a'), mixed(130, 1))} {
		for _, n := range sizes {
			p := mixed(n, 2)
			size := len(laid(synced...)) + frameSize(n) + 9
			for _, keep := range append(ends(frameSize(n)), -1, math.MinInt, frameSize(n)+1, math.MaxInt) {
				d := disk.New(size + 6)
				l := open(t, d, 3, size)
				for _, q := range synced {
					wantAppend(t, l, q, api.OK)
				}
				wantPut(t, l, p, api.OK)
				d.Crash(keep)
				want := slices.Clone(synced)
				if keep >= frameSize(n) {
					want = append(want, p)
				}
				l = open(t, d, 3, size, want...)
				wantDisk(t, d, slices.Concat(make([]byte, 3), padded(laid(want...), size), make([]byte, 3)), 0, len(synced)+2)
				wantAppend(t, l, one('z'), api.OK)
				d.Crash(0)
				open(t, d, 3, size, append(want, one('z'))...)
			}
		}
	}
}

// P5.4: behind several Puts a crash leaves those all of whose bytes last.
func TestCrashOfPuts(t *testing.T) {
	for _, l := range [][][]byte{
		list(one('a'), one('b'), one('c')),
		list([]byte("long enough"), one('b'), []byte("cde")),
		list(one('a'), laid(one('x'), one('y')), one('c')), // frames within a payload
		list(one(0), one(1), make([]byte, 127), bytes.Repeat(one(1), 128)),
		list(mixed(4000, 1), mixed(127, 2), one('c')),
	} {
		size := len(laid(l...)) + 20
		for _, keep := range ends(len(laid(l...)) + 1) {
			d := disk.New(size)
			x := open(t, d, 0, size)
			wantAppend(t, x, one('s'), api.OK)
			for _, p := range l {
				wantPut(t, x, p, api.OK)
			}
			d.Crash(keep)
			want := append(list(one('s')), lasting(l, keep)...)
			open(t, d, 0, size, want...)
			wantDisk(t, d, padded(laid(want...), size), 0, 3)
		}
	}
}

// P5.4: whatever was torn there ahead, by one crash or by several, a later record is whole just if all its bytes last.
func TestTornAhead(t *testing.T) {
	nested := slices.Concat(make([]byte, 5), laid(one('x'), one('y'), []byte("zzz")), bytes.Repeat(laid(one('n')), 3))
	shapes := list(one('a'), one('b'), []byte("abc"), nested, mixed(130, 1), make([]byte, 40), bytes.Repeat(one(1), 40))
	for _, torn := range shapes {
		for _, later := range shapes {
			for _, kept := range ends(frameSize(len(torn)) - 1) {
				for _, keep := range []int{0, 1, 2, frameSize(len(later)) / 2, frameSize(len(later)) - 1, frameSize(len(later))} {
					d := disk.New(200)
					l := open(t, d, 10, 180)
					wantAppend(t, l, one('s'), api.OK)
					wantPut(t, l, torn, api.OK)
					d.Crash(kept)
					l = open(t, d, 10, 180, one('s'))
					wantPut(t, l, later, api.OK)
					d.Crash(keep)
					if keep < frameSize(len(later)) {
						open(t, d, 10, 180, one('s'))
					} else {
						open(t, d, 10, 180, one('s'), later)
					}
				}
			}
		}
	}
}

// P5.4: a record that is torn again and again at the same place is there once all its bytes last.
func TestTornAgain(t *testing.T) {
	p := mixed(30, 1)
	d := disk.New(60)
	wantAppend(t, open(t, d, 0, 60), one('s'), api.OK)
	for keep := range 2 * frameSize(30) {
		l := open(t, d, 0, 60, one('s'))
		wantPut(t, l, p, api.OK)
		d.Crash(keep * 5 % frameSize(30))
	}
	l := open(t, d, 0, 60, one('s'))
	wantPut(t, l, p, api.OK)
	d.Crash(frameSize(30))
	for range 3 {
		open(t, d, 0, 60, one('s'), p)
		d.Crash(0)
	}
}

// P5.1, P5.4: a log that is opened again and again has the same records, and goes on behind them.
func TestOpenAgain(t *testing.T) {
	d := disk.New(1000)
	var want [][]byte
	for k := range 60 {
		l := open(t, d, 100, 800, want...)
		p := mixed(k%9+1, k)
		switch k % 4 {
		case 0:
			wantAppend(t, l, p, api.OK)
			want = append(want, p)
			d.Crash(0)
		case 1:
			wantPut(t, l, p, api.OK)
			want = append(want, p)
		case 2:
			wantPut(t, l, p, api.OK)
			d.Crash(k % 13)
			if k%13 >= frameSize(len(p)) {
				want = append(want, p)
			}
		}
	}
	open(t, d, 100, 800, want...)
}

// P5.2, P5.4: a log that isn't opened behind a crash goes by what stands on the disk; what was torn there doesn't stand behind a later record.
func TestCrashWithoutOpen(t *testing.T) {
	nested := slices.Concat(make([]byte, 5), laid(one('x'), one('y'), []byte("zzz")), bytes.Repeat(laid(one('n')), 3))
	for _, torn := range [][]byte{one('a'), []byte("abc"), nested, mixed(130, 1), bytes.Repeat(one(1), 40)} {
		for _, later := range [][]byte{one('b'), make([]byte, 6), nested, mixed(129, 2)} {
			for kept := range frameSize(len(torn)) + 1 {
				d := disk.New(400)
				l := open(t, d, 10, 380)
				wantAppend(t, l, one('s'), api.OK)
				wantPut(t, l, torn, api.OK)
				d.Crash(kept)
				want := list(one('s'))
				if kept == frameSize(len(torn)) {
					want = append(want, torn)
				}
				used := len(laid(want...))
				wantUsed(t, l, used)
				for n := 1; n < 400; n++ {
					if l.Room(n) != (frameSize(n) <= 380-used) {
						t.Fatal("room for", n, "behind", used)
					}
				}
				wantAppend(t, l, make([]byte, 380), api.ErrFull)
				wantUsed(t, l, used)
				wantPut(t, l, later, api.OK)
				if got := d.Waits(); got != frameSize(len(later)) {
					t.Error("waits", got)
				}
				d.Crash(frameSize(len(later)) - kept%2) // all of it, or all but one
				if kept%2 == 0 {
					want = append(want, later)
				}
				wantUsed(t, l, len(laid(want...)))
				wantAppend(t, l, one('z'), api.OK)
				want = append(want, one('z'))
				wantUsed(t, l, len(laid(want...)))
				d.Crash(0)
				wantUsed(t, l, len(laid(want...)))
				if b := d.Bytes()[10:390]; !bytes.Equal(b, padded(laid(want...), 380)) {
					t.Fatalf("% x, not % x", b, laid(want...))
				}
				open(t, d, 10, 380, want...)
			}
		}
	}
}

// P5.2: several records that a crash took, of a log that isn't opened behind it.
func TestCrashOfPutsWithoutOpen(t *testing.T) {
	for keep := range 30 {
		d := disk.New(60)
		l := open(t, d, 0, 60)
		wantAppend(t, l, one('s'), api.OK)
		puts := list(one('a'), []byte("bc"), one('d'))
		for _, p := range puts {
			wantPut(t, l, p, api.OK)
		}
		want := append(list(one('s')), lasting(puts, keep)...)
		d.Crash(keep)
		wantUsed(t, l, len(laid(want...)))
		wantAppend(t, l, []byte("zz"), api.OK)
		d.Crash(0)
		open(t, d, 0, 60, append(want, []byte("zz"))...)
	}
}

// P5.3: Clear of what was torn, the log opened behind the crash or not.
func TestClearOfTorn(t *testing.T) {
	p := mixed(50, 1)
	for keep := range frameSize(50) + 1 {
		for _, again := range []bool{false, true} {
			d := disk.New(100)
			l := open(t, d, 5, 90)
			wantAppend(t, l, one('s'), api.OK)
			wantPut(t, l, p, api.OK)
			d.Crash(keep)
			if again {
				l, _, _ = log.Open(d, 5, 90)
			}
			syncs := d.Syncs()
			l.Clear()
			wantDisk(t, d, make([]byte, 100), 0, syncs+1)
			wantUsed(t, l, 0)
			d.Crash(0)
			wantPut(t, l, one('b'), api.OK)
			wantDisk(t, d, padded(append(make([]byte, 5), laid(one('b'))...), 100), 7, syncs+1)
			open(t, d, 5, 90, one('b'))
		}
	}
}

// Two logs beside each other leave each other alone.
func TestBeside(t *testing.T) {
	d := disk.New(60)
	first := open(t, d, 0, 30)
	second := open(t, d, 30, 30)
	wantAppend(t, first, one('a'), api.OK)
	wantAppend(t, second, one('b'), api.OK)
	wantPut(t, first, []byte("0123456789abcdefg"), api.OK) // up to the last byte
	wantPut(t, first, one('c'), api.ErrFull)
	wantPut(t, second, one('d'), api.OK)
	wantUsed(t, first, 30)
	wantUsed(t, second, 14)
	d.Crash(23 + 6)
	open(t, d, 0, 30, one('a'), []byte("0123456789abcdefg"))
	second = open(t, d, 30, 30, one('b'))
	second.Clear()
	first = open(t, d, 0, 30, one('a'), []byte("0123456789abcdefg"))
	wantPut(t, second, one('e'), api.OK)
	first.Clear()
	open(t, d, 0, 30)
	open(t, d, 30, 30, one('e'))
}

// words is a disk with a log's piece, as the chapters' words say, byte by byte.
type words struct {
	lasts      []byte
	places     []int // of the bytes that wait
	waits      []byte
	syncs      int
	from, size int
}

func (w *words) read() []byte {
	b := bytes.Clone(w.lasts)
	for i, at := range w.places {
		b[at] = w.waits[i]
	}
	return b
}

func (w *words) crash(keep int) {
	for i, at := range w.places[:min(max(keep, 0), len(w.places))] {
		w.lasts[at] = w.waits[i]
	}
	w.places, w.waits = nil, nil
}

func (w *words) sync() {
	w.crash(len(w.places))
	w.syncs++
}

func (w *words) records() ([][]byte, int) {
	return standing(w.read()[w.from : w.from+w.size])
}

// cut makes noughts of all bytes of the piece from a place on, that last.
func (w *words) cut(end int) {
	w.sync()
	clear(w.lasts[w.from+end : w.from+w.size])
}

func (w *words) open() [][]byte {
	l, end := w.records()
	w.cut(end)
	return l
}

func (w *words) put(p []byte) api.Errno {
	_, end := w.records()
	f := framed(p)
	switch {
	case len(p) < 1 || len(p) > most:
		return api.ErrArg
	case end+len(f) > w.size:
		return api.ErrFull
	case end < w.size && w.read()[w.from+end] != 0: // torn, and not opened again
		w.cut(end)
	}
	for i, c := range f {
		w.places, w.waits = append(w.places, w.from+end+i), append(w.waits, c)
	}
	return api.OK
}

func (w *words) append(p []byte) api.Errno {
	e := w.put(p)
	if e == api.OK {
		w.sync()
	}
	return e
}

// both is a disk with a log, and what the words say of it.
type both struct {
	d *disk.Disk
	l *log.Log
	w *words
}

func newBoth(t *testing.T, size, from, piece int) *both {
	t.Helper()
	x := &both{d: disk.New(size), w: &words{lasts: make([]byte, size), from: from, size: piece}}
	x.l = open(t, x.d, from, piece, x.w.open()...)
	return x
}

// step is something that is done to a log, or its disk.
type step struct {
	what string
	n    int
	p    []byte
}

func (x *both) do(t *testing.T, s step) {
	t.Helper()
	switch s.what {
	case "open":
		x.l = open(t, x.d, x.w.from, x.w.size, x.w.open()...)
	case "put":
		wantPut(t, x.l, s.p, x.w.put(s.p))
	case "append":
		wantAppend(t, x.l, s.p, x.w.append(s.p))
	case "clear":
		x.l.Clear()
		x.w.cut(0)
	case "crash":
		x.d.Crash(s.n)
		x.w.crash(s.n)
	case "sync": // of the disk, by whom it is
		x.d.Sync()
		x.w.sync()
	}
	_, used := x.w.records()
	wantUsed(t, x.l, used)
	wantDisk(t, x.d, x.w.read(), len(x.w.waits), x.w.syncs)
	for _, n := range []int{0, 1, 2, x.w.size - used - 7, x.w.size - used - 6, x.w.size - used - 5} {
		if x.l.Room(n) != (n > 0 && n <= most && frameSize(n) <= x.w.size-used) {
			t.Errorf("used %d: room for %d %v", used, n, x.l.Room(n))
		}
	}
}

// P5.1 to P5.4: each run of few steps of a small log is what the words say.
func TestEveryRun(t *testing.T) {
	steps := []step{{what: "open"}, {what: "clear"}, {what: "sync"}, {what: "put"}, {what: "append"}}
	for _, n := range []int{-1, 0, 1, 6, 7, 8, 13, 14, 15, 20} {
		steps = append(steps, step{what: "crash", n: n})
	}
	for _, p := range list(one('a'), []byte{1, 1}, framed([]byte("x"))) {
		steps = append(steps, step{what: "put", p: p}, step{what: "append", p: p})
	}
	for first := range steps {
		for run := range len(steps) * len(steps) * len(steps) {
			x := newBoth(t, 26, 2, 22)
			trace := []step{{what: "put", p: []byte("bc")}, steps[first]}
			for left := run; len(trace) < 5; left /= len(steps) {
				trace = append(trace, steps[left%len(steps)])
			}
			for _, s := range trace {
				x.do(t, s)
			}
			if t.Failed() {
				t.Fatal("run", trace)
			}
		}
	}
}

// chance is a plain row of numbers, the same one each time.
type chance uint64

func (c *chance) below(n int) int {
	*c = *c*6364136223846793005 + 1442695040888963407
	return int(uint64(*c) >> 33 % uint64(n))
}

// anyStep is a step of any kind: mostly what writes, and often an open behind a crash.
func (c *chance) anyStep(k, longest, waits int) step {
	switch n := c.below(16); {
	case n < 5:
		return step{what: "put", p: mixed(c.below(longest), k)}
	case n < 9:
		return step{what: "append", p: mixed(c.below(longest), k)}
	case n < 12:
		return step{what: "crash", n: c.below(waits+3) - 1}
	case n < 15:
		return step{what: "open"}
	}
	return step{what: []string{"clear", "sync"}[c.below(2)]}
}

// P5.1 to P5.4: long runs of logs of all sizes are what the words say.
func TestLongRuns(t *testing.T) {
	c := chance(1)
	for _, x := range []struct{ disk, from, size, longest, steps int }{
		{1, 0, 1, 3, 50}, {7, 0, 7, 3, 300}, {20, 5, 15, 9, 1000}, {64, 1, 62, 30, 2000}, {300, 40, 200, 150, 2000}, {1000, 250, 750, 20, 1000}, {9000, 0, 9000, 4003, 300}, {mostDisk, 16000, mostDisk - 16000, 4003, 40},
	} {
		y := newBoth(t, x.disk, x.from, x.size)
		for k := range x.steps {
			s := c.anyStep(k, x.longest, len(y.w.waits))
			if y.do(t, s); t.Failed() {
				t.Fatalf("piece %d of %d, step %d: %s %d %d", x.size, x.disk, k, s.what, s.n, len(s.p))
			}
		}
	}
}

// Rule 4: what is handed in is neither changed nor kept, its spare room included.
func TestHandedIn(t *testing.T) {
	room := mixed(300, 1)
	was := bytes.Clone(room)
	d := disk.New(900)
	l := open(t, d, 0, 900)
	wantPut(t, l, room[1:4:9], api.OK)
	wantAppend(t, l, room[10:138], api.OK)
	wantPut(t, l, room[:0], api.ErrArg)
	wantPut(t, l, room[20:21], api.OK)
	if !bytes.Equal(room, was) {
		t.Error("changed")
	}
	clear(room) // by its owner
	d.Sync()
	open(t, d, 0, 900, was[1:4], was[10:138], was[20:21])
	small := open(t, disk.New(20), 0, 20)
	copy(room, was)
	wantPut(t, small, room[:100], api.ErrFull)
	wantPut(t, small, room[:14:200], api.OK)
	wantPut(t, small, room[:1], api.ErrFull)
	small.Clear()
	if !bytes.Equal(room, was) {
		t.Error("changed")
	}
}

// spoil writes over a list and its spare room.
func spoil(b []byte) {
	b = b[:cap(b)]
	for i := range b {
		b[i] = 99
	}
}

// Rule 4: records that are answered are new memory, their spare room too, each one; what is done later doesn't change them.
func TestHandedOut(t *testing.T) {
	all := list(one('a'), mixed(128, 1), []byte("bcd"))
	d := newDisk(t, padded(laid(all...), 300))
	l, first, _ := log.Open(d, 0, 300)
	_, second, _ := log.Open(d, 0, 300)
	spoil(first[0])
	_ = append(first[1], 99, 99, 99)
	if !bytes.Equal(first[1], all[1]) || !bytes.Equal(first[2], all[2]) {
		t.Error("records of one answer share")
	}
	spoil(first[2])
	spoil(first[1])
	full := first[:cap(first)]
	for i := range full {
		full[i] = nil
	}
	if !slices.EqualFunc(second, all, bytes.Equal) {
		t.Error("two answers share")
	}
	l = open(t, d, 0, 300, all...)
	wantPut(t, l, one('z'), api.OK)
	l.Clear()
	d.Sync()
	if !slices.EqualFunc(second, all, bytes.Equal) {
		t.Error("an answer was changed later")
	}
}

// Rule 6: logs of two disks don't hang on each other, nor an answer on what was asked ahead.
func TestApart(t *testing.T) {
	first, other := disk.New(30), disk.New(30)
	x, y := open(t, first, 0, 30), open(t, other, 0, 30)
	wantPut(t, x, one('a'), api.OK)
	wantUsed(t, y, 0)
	wantAppend(t, y, []byte("bc"), api.OK)
	for range 3 {
		wantUsed(t, x, 7)
		wantUsed(t, y, 8)
		if !x.Room(17) || x.Room(18) || !y.Room(16) || y.Room(17) {
			t.Error("room")
		}
	}
	first.Crash(0)
	wantUsed(t, x, 0)
	wantUsed(t, y, 8)
	y.Clear()
	wantDisk(t, first, make([]byte, 30), 0, 1)
}
