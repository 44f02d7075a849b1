package journal_test

import (
	"bytes"
	"hash/crc32"
	"math"
	"slices"
	"testing"

	"dunnage/api"
	"dunnage/disk"
	"dunnage/journal"
	"dunnage/log"
	"dunnage/slots"
)

const (
	least    = 64        // bytes of a disk
	mostDisk = 65536     // likewise
	most     = 3900      // bytes of an op
	mostLoad = 4000      // bytes of a payload
	tail     = 5         // bytes of a frame behind its payload
	greatest = 1<<53 - 1 // of the numbers
)

// counts are numbers of ops around each place where one needs a byte more, and around both ends.
var counts = []int{0, 1, 2, 126, 127, 128, 129, 1<<14 - 1, 1 << 14, 1<<32 - 1, 1 << 32, 1<<49 - 1, 1 << 49, greatest - 1, greatest}

// noOps are how many bytes no op has.
var noOps = []int{math.MinInt, math.MinInt + 1, -1 << 53, -3900, -128, -2, -1, 0, 3901, 3902, 3999, 4000, 4001, 4096, 1 << 14, mostDisk, 1 << 32, 1<<32 + 1, 1 << 53, 1 << 62, math.MaxInt - 9, math.MaxInt - 8, math.MaxInt - 1, math.MaxInt}

// numBytes is a number's bytes, as layer 1's words say.
func numBytes(n int) []byte {
	var b []byte
	for ; n >= 128; n /= 128 {
		b = append(b, byte(n%128+128))
	}
	return append(b, byte(n))
}

// number is what number stands at the start of bytes, and how many bytes it has; ok is false without one.
func number(b []byte) (n, size int, ok bool) {
	for k, c := range b {
		n += int(c%128) << (7 * k)
		if c < 128 {
			return n, k + 1, n <= greatest && bytes.Equal(numBytes(n), b[:k+1])
		}
		if k == 7 {
			break
		}
	}
	return 0, 0, false
}

// framed is a payload's frame, as layer 3's words say.
func framed(p []byte) []byte {
	n := crc32.ChecksumIEEE(p)
	return slices.Concat(numBytes(len(p)), p, []byte{byte(n >> 24), byte(n >> 16), byte(n >> 8), byte(n), 1})
}

// laid is the frames of payloads, one behind the other.
func laid(l ...[]byte) []byte {
	var b []byte
	for _, p := range l {
		b = append(b, framed(p)...)
	}
	return b
}

// frameSize is how many bytes the frame of a payload of n bytes has.
func frameSize(n int) int { return len(numBytes(n)) + n + tail }

// recordSize is how many bytes the log needs for an op of n bytes behind count others.
func recordSize(count, n int) int { return frameSize(len(numBytes(count)) + n) }

// record is an op's, and a picture's payload is the same of its age and its bytes.
func record(n int, op []byte) []byte { return append(numBytes(n), op...) }

// records are those of ops, the first of which has a number.
func records(first int, ops ...[]byte) [][]byte {
	var l [][]byte
	for k, op := range ops {
		l = append(l, record(first+k, op))
	}
	return l
}

// mixed is n bytes of which each value comes, in no plain order, other ones for each seed.
func mixed(n, seed int) []byte {
	b := make([]byte, n)
	for i := range b {
		b[i] = byte(i*i*7 + i*13 + i>>8 + seed*31 + 5)
	}
	return b
}

// one is an op of one byte.
func one(c byte) []byte { return []byte{c} }

func list(l ...[]byte) [][]byte { return l }

// padded is bytes, and noughts behind them up to a size.
func padded(b []byte, size int) []byte {
	return append(bytes.Clone(b), make([]byte, size-len(b))...)
}

// shaped is a disk's bytes: those of the first slot, of the second one, of the log.
func shaped(size int, first, second, log []byte) []byte {
	q := size / 4
	return slices.Concat(padded(first, q), padded(second, q), padded(log, size-2*q))
}

func newDisk(t *testing.T, b []byte) *disk.Disk {
	t.Helper()
	d := disk.New(len(b))
	if d == nil || d.Write(0, b) != api.OK {
		t.Fatal("no disk of", len(b))
	}
	d.Sync()
	return d
}

// aged is a disk with a picture of no bytes, of an age.
func aged(t *testing.T, size, age int) *disk.Disk {
	t.Helper()
	return newDisk(t, shaped(size, framed(numBytes(age)), nil, nil))
}

// open opens a journal, and wants a picture, its age, and these ops.
func open(t *testing.T, d *disk.Disk, picture []byte, age int, want ...[]byte) *journal.Journal {
	t.Helper()
	j, p, l, e := journal.Open(d)
	if e != api.OK || j == nil {
		t.Fatalf("Open of a disk of %d: %d", d.Size(), e)
	}
	if !bytes.Equal(p, picture) {
		t.Fatalf("picture % .100x, not % .100x", p, picture)
	}
	if !slices.EqualFunc(l, want, bytes.Equal) {
		t.Fatalf("ops % .200x, not % .200x", l, want)
	}
	wantCount(t, j, age+len(want))
	return j
}

func wantCount(t *testing.T, j *journal.Journal, want int) {
	t.Helper()
	if got := j.Count(); got != want {
		t.Errorf("count %d, not %d", got, want)
	}
}

func wantAppend(t *testing.T, j *journal.Journal, op []byte, want api.Errno) {
	t.Helper()
	if got := j.Append(op); got != want {
		t.Errorf("Append of %d bytes: %d, not %d", len(op), got, want)
	}
}

func wantStart(t *testing.T, j *journal.Journal, op []byte, want api.Errno) {
	t.Helper()
	if got := j.Start(op); got != want {
		t.Errorf("Start of %d bytes: %d, not %d", len(op), got, want)
	}
}

func wantCompact(t *testing.T, j *journal.Journal, picture []byte, want api.Errno) {
	t.Helper()
	if got := j.Compact(picture); got != want {
		t.Errorf("Compact of %d bytes: %d, not %d", len(picture), got, want)
	}
}

func wantRoom(t *testing.T, j *journal.Journal, n int, want bool) {
	t.Helper()
	if got := j.Room(n); got != want {
		t.Errorf("room for %d bytes: %v", n, got)
	}
}

// wantDisk wants bytes, as they are read, and how many of them wait.
func wantDisk(t *testing.T, d *disk.Disk, want []byte, waits int) {
	t.Helper()
	if got := d.Bytes(); !bytes.Equal(got, want) {
		t.Errorf("bytes % .300x, not % .300x", got, want)
	}
	if got := d.Waits(); got != waits {
		t.Errorf("waits %d, not %d", got, waits)
	}
}

// wantErrors wants an error of Start and Append alike, no room, and that nothing is done to the journal and its disk.
func wantErrors(t *testing.T, d *disk.Disk, j *journal.Journal, op []byte, want api.Errno) {
	t.Helper()
	was, waits, syncs, count := d.Bytes(), d.Waits(), d.Syncs(), j.Count()
	wantStart(t, j, op, want)
	wantAppend(t, j, op, want)
	wantRoom(t, j, len(op), false)
	wantCount(t, j, count)
	wantDisk(t, d, was, waits)
	if d.Syncs() != syncs {
		t.Error("synced beside an error")
	}
}

// wantNoCompact wants ErrFull of a Compact, and that nothing is done to the journal and its disk.
func wantNoCompact(t *testing.T, d *disk.Disk, j *journal.Journal, picture []byte) {
	t.Helper()
	was, waits, syncs, count := d.Bytes(), d.Waits(), d.Syncs(), j.Count()
	wantCompact(t, j, picture, api.ErrFull)
	wantCount(t, j, count)
	wantDisk(t, d, was, waits)
	if d.Syncs() != syncs {
		t.Error("synced beside an error")
	}
}

// The chapter's own example.
func TestExample(t *testing.T) {
	d := disk.New(100)
	j := open(t, d, nil, 0)
	wantAppend(t, j, one('a'), api.OK)
	wantCompact(t, j, one('P'), api.OK)
	wantAppend(t, j, one('b'), api.OK)
	wantCount(t, j, 2)
	open(t, d, one('P'), 1, one('b'))
}

// P7.1: a disk of each size, the least and the greatest one too, that four divides or not, has a journal without a picture and ops, if nothing is there; nothing is written.
func TestOpenEmpty(t *testing.T) {
	for _, size := range []int{64, 65, 66, 67, 68, 99, 100, 101, 102, 103, 4096, 4099, mostDisk - 3, mostDisk - 1, mostDisk} {
		d := disk.New(size)
		for range 3 {
			open(t, d, nil, 0)
		}
		wantDisk(t, d, make([]byte, size), 0)
	}
}

// P7.1: of no disk, and one of fewer than 64 bytes, there is none; nothing is done to it.
func TestOpenOfNone(t *testing.T) {
	if j, p, l, e := journal.Open(nil); e != api.ErrArg || j != nil || len(p) != 0 || len(l) != 0 {
		t.Error("no disk:", j, p, l, e)
	}
	for size := 1; size < least; size++ {
		b := bytes.Repeat(one(255), size)
		if size > 40 { // as if it were a journal's
			b = shaped(size, framed(record(1, one('P'))), nil, framed(record(1, one('a'))))
		}
		d := newDisk(t, b)
		d.Write(size-1, one(77))
		b[size-1] = 77
		if j, p, l, e := journal.Open(d); e != api.ErrArg || j != nil || len(p) != 0 || len(l) != 0 {
			t.Error("a disk of", size, j, p, l, e)
		}
		wantDisk(t, d, b, 1)
		if d.Syncs() != 1 {
			t.Error("synced")
		}
	}
}

// P7.1 to P7.3: where records and pictures stand, on disks of all kinds of sizes.
func TestWhereThingsStand(t *testing.T) {
	for _, size := range []int{64, 65, 66, 67, 68, 70, 71, 99, 127, 128, 129, 1000, 1001, 1002, 1003, mostDisk - 1, mostDisk} {
		d := disk.New(size)
		j := open(t, d, nil, 0)
		wantAppend(t, j, one('a'), api.OK)
		wantStart(t, j, []byte("bc"), api.OK)
		wantDisk(t, d, shaped(size, nil, nil, laid(records(0, one('a'), []byte("bc"))...)), 9)
		wantCompact(t, j, one('P'), api.OK)
		first := framed(record(2, one('P')))
		wantDisk(t, d, shaped(size, first, nil, nil), 0)
		wantAppend(t, j, one('d'), api.OK)
		wantDisk(t, d, shaped(size, first, nil, framed(record(2, one('d')))), 0)
		wantCompact(t, j, []byte("QR"), api.OK)
		second := framed(record(3, []byte("QR")))
		wantDisk(t, d, shaped(size, first, second, nil), 0)
		wantStart(t, j, one('e'), api.OK)
		wantDisk(t, d, shaped(size, first, second, framed(record(3, one('e')))), 8)
		wantCompact(t, j, nil, api.OK)
		wantDisk(t, d, shaped(size, framed(numBytes(4)), second, nil), 0)
		open(t, d, nil, 4)
	}
}

// told is a log's records, what they tell behind a picture of an age, and whether the log is cleared.
type told struct {
	age     int
	records [][]byte
	want    [][]byte
	cleared bool
}

// tolds are logs of all kinds behind a picture.
func tolds() []told {
	a, b, c := one('a'), []byte("bc"), one('d')
	long, longer := mixed(most, 1), mixed(most+1, 2)
	return []told{
		{5, nil, nil, false},
		{5, list(record(5, a)), list(a), false},
		{0, records(0, a, b, c), list(a, b, c), false},
		{126, records(126, a, b, c, a), list(a, b, c, a), false},
		{5, records(5, long, a, long), list(long, a, long), false},
		{5, list(record(5, []byte{0}), record(6, []byte{0, 0}), record(7, []byte{128})), list([]byte{0}, []byte{0, 0}, []byte{128}), false},
		// of lower numbers: left out, wherever they stand
		{5, records(0, a, b, c, a, b, c, a), list(c, a), false},
		{5, records(3, a, b, c), list(c), false},
		{5, list(record(5, a), record(0, b), record(6, c)), list(a, c), false},
		{5, list(record(5, a), record(4, b), record(6, c), record(6, b), record(5, b), record(7, a)), list(a, c, a), false},
		{5, list(record(5, a), record(5, b), record(6, c)), list(a, c), false},
		{5, list(record(5, a), record(0, b), record(4, c)), list(a), false},
		{5, list(record(4, a), record(1, c), record(5, b), record(3, a)), list(b), false},
		{300, list(record(299, a), record(127, b), record(300, c), record(0, long)), list(c), false},
		// all of lower numbers
		{5, list(record(4, a)), nil, true},
		{5, list(record(0, a)), nil, true},
		{5, records(0, a, b, c, a, b), nil, true},
		{5, list(record(4, a), record(2, b), record(4, c)), nil, true},
		{1, list(record(0, long), record(0, long)), nil, true},
		{greatest, list(record(greatest-1, a), record(0, b)), nil, true},
		{128, list(record(127, a)), nil, true},
		// a greater number: up to there
		{5, list(record(6, a)), nil, false},
		{5, list(record(6, a), record(5, b)), nil, false},
		{5, list(record(5, a), record(7, b), record(6, c)), list(a), false},
		{5, list(record(4, a), record(6, b), record(5, c)), nil, false},
		{5, list(record(4, a), record(3, a), record(6, b)), nil, false},
		{5, list(record(5, a), record(6, b), record(greatest, c), record(7, c)), list(a, b), false},
		{5, list(record(128, a), record(5, b)), nil, false},
		// no number: up to there
		{5, list([]byte{128}), nil, false},
		{5, list(record(5, a), []byte{128}, record(6, b)), list(a), false},
		{5, list(record(4, a), []byte{255, 255}), nil, false},
		{5, list(record(4, a), []byte{133, 0, 'b'}, record(5, c)), nil, false}, // 5 that isn't as short as may be
		{5, list([]byte{128, 0, 'b'}, record(5, c)), nil, false},
		{5, list(record(5, a), []byte{128, 128, 128, 128, 128, 128, 128, 16, 'b'}, record(6, c)), list(a), false}, // 2^53
		{5, list(record(5, a), []byte{255, 255, 255, 255, 255, 255, 255, 255, 1, 'b'}, record(6, c)), list(a), false},
		{5, list(bytes.Repeat(one(255), mostLoad)), nil, false},
		// no op: up to there
		{5, list(numBytes(5)), nil, false},
		{5, list(numBytes(5), record(5, a)), nil, false},
		{5, list(record(5, a), numBytes(6), record(6, b)), list(a), false},
		{5, list(record(5, a), numBytes(3), record(6, b)), list(a), false}, // of a lower number, too
		{5, list(record(4, a), numBytes(4), record(5, b)), nil, false},
		{5, list(record(5, a), numBytes(9), record(6, b)), list(a), false},
		{5, list(record(5, longer), record(5, a)), nil, false},
		{5, list(record(5, a), record(6, longer), record(6, b)), list(a), false},
		{5, list(record(5, a), record(2, longer), record(6, b)), list(a), false},
		{5, list(record(2, long), record(5, a), record(2, long), record(6, b)), list(a, b), false},
		{5, list(record(5, a), record(6, mixed(mostLoad-1, 1)), record(6, b)), list(a), false},
		// of lower numbers, all of them, though not all have an op
		{5, list(numBytes(4)), nil, true},
		{5, list(record(3, longer), numBytes(0), record(4, a)), nil, true},
	}
}

// P7.1: what a disk tells, of logs of all kinds; whether the log is cleared; all else stays, and it tells the same again.
func TestTold(t *testing.T) {
	for i, x := range tolds() {
		for _, size := range []int{mostDisk, mostDisk - 1} {
			for _, picture := range list(nil, one('P'), mixed(150, 1)) {
				slot := framed(record(x.age, picture))
				b := shaped(size, slot, nil, laid(x.records...))
				if i%2 == 1 {
					b = shaped(size, framed(record(x.age-1, one('o'))), slot, laid(x.records...))
				}
				if x.age == 0 {
					b = shaped(size, slot, nil, laid(x.records...))
				}
				d := newDisk(t, b)
				if x.cleared {
					clear(b[2*(size/4):])
				}
				for range 2 {
					open(t, d, picture, x.age, x.want...)
					wantDisk(t, d, b, 0)
				}
				if x.age == 0 { // none is as well as one of age 0 and of no bytes
					open(t, newDisk(t, shaped(size, nil, nil, laid(x.records...))), nil, 0, x.want...)
				}
				if t.Failed() {
					t.Fatal("log", i)
				}
			}
		}
	}
}

// P7.1: without a picture no record is of a lower number; the log stays, whatever it tells.
func TestToldWithoutPicture(t *testing.T) {
	a, b := one('a'), one('b')
	for i, x := range []struct{ records, want [][]byte }{
		{records(0, a, b, a), list(a, b, a)},
		{list(record(0, a), record(0, b), record(1, b)), list(a, b)},
		{list(record(1, a), record(0, b)), nil},
		{list(numBytes(0)), nil},
		{list(numBytes(0), record(0, a)), nil},
		{list([]byte{128, 0, 1}, record(0, a)), nil},
	} {
		d := newDisk(t, shaped(200, nil, nil, laid(x.records...)))
		was := d.Bytes()
		open(t, d, nil, 0, x.want...)
		wantDisk(t, d, was, 0)
		if t.Failed() {
			t.Fatal("log", i)
		}
	}
}

// P7.1: the log is cleared once, and is written nothing more; without a record it isn't.
func TestClearedOnce(t *testing.T) {
	d := newDisk(t, shaped(100, nil, framed(record(3, one('P'))), laid(records(1, one('a'), one('b'))...)))
	for k, syncs := range []int{3, 4, 5} { // one of the bytes, one of each Open, one of the clearing
		open(t, d, one('P'), 3)
		if d.Syncs() != syncs {
			t.Error("Open", k, "syncs", d.Syncs())
		}
	}
	d.Crash(0)
	wantDisk(t, d, shaped(100, nil, framed(record(3, one('P'))), nil), 0)
}

// P7.1: a picture that was saved while the log was not cleared: it is, and there is room again.
func TestPictureAheadOfClear(t *testing.T) {
	for _, size := range []int{64, 67, 100, 1000} {
		d := disk.New(size)
		j := open(t, d, nil, 0)
		n := 0
		for ; j.Room(1); n++ {
			wantAppend(t, j, one(byte(n)), api.OK)
		}
		s, _ := slots.Open(d, 0, size/4)
		if s.Save(one('P'), n) != api.OK {
			t.Fatal("no picture")
		}
		j = open(t, d, one('P'), n)
		wantDisk(t, d, shaped(size, framed(record(n, one('P'))), nil, nil), 0)
		wantAppend(t, j, one('z'), api.OK)
		wantCompact(t, j, one('Q'), api.OK)
		wantAppend(t, j, one('y'), api.OK)
		open(t, d, one('Q'), n+1, one('y'))
	}
}

// P7.1: behind a picture that is elder than some of the log's records, those that are in it are left out, and the log stays.
func TestPictureAmid(t *testing.T) {
	ops := list(one('a'), one('b'), []byte("cd"), one('e'), one('f'))
	for age := 1; age < len(ops); age++ {
		d := newDisk(t, shaped(200, framed(record(age, one('P'))), nil, laid(records(0, ops...)...)))
		was := d.Bytes()
		j := open(t, d, one('P'), age, ops[age:]...)
		wantDisk(t, d, was, 0)
		wantAppend(t, j, one('g'), api.OK)
		j = open(t, d, one('P'), age, append(slices.Clone(ops[age:]), one('g'))...)
		wantCompact(t, j, one('Q'), api.OK)
		wantDisk(t, d, shaped(200, framed(record(age, one('P'))), framed(record(6, one('Q'))), nil), 0)
	}
}

// P7.1: which of two pictures counts; torn ones don't, nor such as are none.
func TestWhichPicture(t *testing.T) {
	p, q := framed(record(3, one('p'))), framed(record(7, one('q')))
	for _, x := range []struct {
		first, second, picture []byte
		age                    int
	}{
		{p, q, one('q'), 7},
		{q, p, one('q'), 7},
		{p, framed(record(3, one('r'))), one('p'), 3},
		{p, q[:6], one('p'), 3},
		{q[:1], p, one('p'), 3},
		{p[:6], q[:6], nil, 0},
		{framed([]byte{128, 0}), p, one('p'), 3},
		{append([]byte{0}, q...), p, one('p'), 3},
		{framed(numBytes(0)), nil, nil, 0},
		{framed(numBytes(1)), nil, nil, 1},
		{nil, framed(numBytes(greatest)), nil, greatest},
	} {
		d := newDisk(t, shaped(120, x.first, x.second, nil))
		was := d.Bytes()
		j := open(t, d, x.picture, x.age)
		wantDisk(t, d, was, 0)
		if x.age < greatest {
			wantAppend(t, j, one('a'), api.OK)
			open(t, d, x.picture, x.age, one('a'))
		}
	}
}

// P7.2: an op is its record, behind those ahead; one that is appended lasts, and all that was started ahead of it; one that is started waits.
func TestAppendAndStart(t *testing.T) {
	for _, n := range []int{1, 2, 3, 126, 127, 128, 300, most - 1, most} {
		for _, count := range counts[:len(counts)-2] {
			d := aged(t, mostDisk, count)
			j := open(t, d, nil, count)
			var ops [][]byte
			waits, syncs := 0, d.Syncs()
			for k, lasts := range []bool{true, false, false, true, false} {
				ops = append(ops, mixed(n, k))
				wantRoom(t, j, n, true)
				if lasts {
					wantAppend(t, j, ops[k], api.OK)
					waits, syncs = 0, syncs+1
				} else {
					wantStart(t, j, ops[k], api.OK)
					waits += recordSize(count+k, n)
				}
				wantCount(t, j, count+k+1)
				wantDisk(t, d, shaped(mostDisk, framed(numBytes(count)), nil, laid(records(count, ops...)...)), waits)
				if d.Syncs() != syncs {
					t.Error("syncs", d.Syncs(), "not", syncs)
				}
			}
			d.Crash(0)
			open(t, d, nil, count, ops[:4]...)
		}
	}
}

// P7.2: all ops are told again in their order, of all kinds of bytes.
func TestOpsOfAllKinds(t *testing.T) {
	var ops [][]byte
	for k, n := range []int{1, 2, 7, 119, 120, 121, 126, 127, 128, 300, 1000} {
		ops = append(ops, mixed(n, k), make([]byte, n), bytes.Repeat(one(1), n), bytes.Repeat(one(255), n))
	}
	ops = append(ops, laid(records(0, one('a'), one('b'))...), record(0, one('a')), framed(one('x'))[:5], numBytes(greatest), one(128))
	d := disk.New(mostDisk)
	j := open(t, d, nil, 0)
	for k, op := range ops {
		if k%3 == 1 {
			wantAppend(t, j, op, api.OK)
		} else {
			wantStart(t, j, op, api.OK)
		}
		wantCount(t, j, k+1)
	}
	wantDisk(t, d, shaped(mostDisk, nil, nil, laid(records(0, ops...)...)), d.Waits())
	open(t, d, nil, 0, ops...)
}

// P7.2: what is no op is ErrArg, in a journal without room too; nothing is done then.
func TestAppendOfNone(t *testing.T) {
	for _, size := range []int{64, 100, mostDisk} {
		d := disk.New(size)
		j := open(t, d, nil, 0)
		for range 2 {
			for _, op := range [][]byte{nil, {}, make([]byte, 0, 9), make([]byte, 3901), mixed(3901, 1), mixed(3999, 1), make([]byte, 4000), make([]byte, 4001), make([]byte, mostDisk), make([]byte, 1<<17)} {
				wantErrors(t, d, j, op, api.ErrArg)
			}
			for j.Start(mixed(min(size/8, most), 1)) == api.OK {
			}
			for j.Start(one('a')) == api.OK {
			}
		}
	}
}

// P7.2: an op whose record fills the log to its last byte, and one that is a byte too long, behind each number of ops, and with others ahead.
func TestFills(t *testing.T) {
	for _, count := range counts {
		for _, n := range []int{1, 2, 100, 117, 118, 119, 120, 121, 122, 123, 124, 125, 126, 127, 128, 129, 300, most - 1, most} {
			for spare := -2; spare <= 2; spare++ {
				room := recordSize(count, n) + spare // of the log
				size := 2 * room
				if room%2 == 1 {
					size++ // the log has what four doesn't divide
				}
				if size < least || size-2*(size/4) != room {
					continue
				}
				d := aged(t, size, count)
				j := open(t, d, nil, count)
				wantRoom(t, j, n, spare >= 0)
				if spare < 0 {
					wantErrors(t, d, j, mixed(n, 1), api.ErrFull)
					open(t, d, nil, count)
					continue
				}
				wantStart(t, j, mixed(n, 1), api.OK)
				wantErrors(t, d, j, one('z'), api.ErrFull)
				wantErrors(t, d, j, nil, api.ErrArg)
				wantDisk(t, d, shaped(size, framed(numBytes(count)), nil, framed(record(count, mixed(n, 1)))), recordSize(count, n))
				open(t, d, nil, count, mixed(n, 1))
			}
		}
	}
}

// P7.2: ops, one behind the other, until there is no room: as many as have, across the numbers 127 and 128, on disks of all sizes.
func TestFillsWithMany(t *testing.T) {
	for _, size := range []int{64, 65, 66, 67, 68, 71, 79, 80, 81, 82, 83, 84, 100, 2047, 2048, 2049, 2050, 2060, 2070, 2100, mostDisk} {
		for _, count := range []int{0, 126, 127, 1<<14 - 2} {
			d := aged(t, size, count)
			j := open(t, d, nil, count)
			left := size - 2*(size/4)
			n := count
			for ; left >= recordSize(n, 1); n++ {
				left -= recordSize(n, 1)
				wantRoom(t, j, 1, true)
				wantAppend(t, j, one(byte(n)), api.OK)
			}
			wantErrors(t, d, j, one('z'), api.ErrFull)
			wantErrors(t, d, j, mixed(most, 1), api.ErrFull)
			wantCount(t, j, n)
			if _, _, l, _ := journal.Open(d); len(l) != n-count || n > count && l[n-count-1][0] != byte(n-1) {
				t.Error("a disk of", size, "ops", len(l), "not", n-count)
			}
		}
	}
}

// P7.2: Room is true just of those numbers of bytes whose ops would be taken; asking changes nothing.
func TestRoom(t *testing.T) {
	for _, size := range []int{64, 65, 66, 67, 68, 272, 273, 274, 276, 280, 8030, 8040, mostDisk} {
		for _, count := range []int{0, 125, 1 << 14, greatest - 1} {
			d := aged(t, size, count)
			j := open(t, d, nil, count)
			left := size - 2*(size/4)
			for k := range 4 {
				if count+k > greatest {
					break
				}
				was, waits, syncs := d.Bytes(), d.Waits(), d.Syncs()
				for n := 1; n <= most; n++ {
					if got := j.Room(n); got != (recordSize(count+k, n) <= left) {
						t.Fatalf("%d left behind %d: room for %d %v", left, count+k, n, got)
					}
				}
				for _, n := range noOps {
					wantRoom(t, j, n, false)
				}
				wantCount(t, j, count+k)
				if wantDisk(t, d, was, waits); d.Syncs() != syncs {
					t.Error("synced")
				}
				if k%2 == 0 && j.Start(one('a')) == api.OK || k%2 == 1 && j.Append(one('b')) == api.OK {
					left -= recordSize(count+k, 1)
				} else if left >= recordSize(count+k, 1) {
					t.Error("not taken")
				}
			}
		}
	}
}

// P7.2: the greatest number is an op's; behind it there is none, and no op has room; nor is it a picture's age any more.
func TestGreatestNumber(t *testing.T) {
	d := aged(t, 200, greatest)
	j := open(t, d, nil, greatest)
	wantNoCompact(t, d, j, one('P'))
	wantRoom(t, j, 1, true)
	wantStart(t, j, one('a'), api.OK)
	wantCount(t, j, greatest+1)
	for range 2 {
		wantErrors(t, d, j, one('b'), api.ErrFull)
		wantErrors(t, d, j, nil, api.ErrArg)
		for n := range 100 {
			wantRoom(t, j, n, false)
		}
		wantNoCompact(t, d, j, one('P'))
		wantNoCompact(t, d, j, nil)
		j = open(t, d, nil, greatest, one('a'))
	}
	d = aged(t, 200, greatest-1)
	j = open(t, d, nil, greatest-1)
	wantAppend(t, j, one('a'), api.OK)
	wantCompact(t, j, one('P'), api.OK)
	j = open(t, d, one('P'), greatest)
	wantAppend(t, j, one('b'), api.OK)
	open(t, d, one('P'), greatest, one('b'))
}

// P7.3: a picture takes the place of all ops, those that weren't sure to last too, whatever its bytes are; all of that lasts.
func TestCompact(t *testing.T) {
	for _, count := range counts[:len(counts)-2] {
		for _, picture := range [][]byte{nil, {}, one(0), one('P'), make([]byte, 90), mixed(90, 1), framed(record(1, one('x'))), numBytes(greatest), one(128)} {
			d := aged(t, 600, count)
			j := open(t, d, nil, count)
			wantAppend(t, j, one('a'), api.OK)
			wantStart(t, j, []byte("bc"), api.OK)
			wantCompact(t, j, picture, api.OK)
			wantCount(t, j, count+2)
			want := shaped(600, framed(numBytes(count)), framed(record(count+2, picture)), nil)
			wantDisk(t, d, want, 0)
			d.Crash(0)
			wantDisk(t, d, want, 0)
			j = open(t, d, picture, count+2)
			wantStart(t, j, one('d'), api.OK)
			open(t, d, picture, count+2, one('d'))
		}
	}
}

// P7.3: without ops a picture is saved, if there is none; behind one, ErrFull, until there are ops again.
func TestCompactWithoutOps(t *testing.T) {
	d := disk.New(200)
	j := open(t, d, nil, 0)
	wantCompact(t, j, one('P'), api.OK) // of age 0
	wantDisk(t, d, shaped(200, framed(record(0, one('P'))), nil, nil), 0)
	for range 2 {
		for _, picture := range list(nil, one('P'), one('Q'), mixed(60, 1), mixed(mostDisk, 1)) {
			wantNoCompact(t, d, j, picture)
		}
		j = open(t, d, one('P'), 0)
	}
	wantStart(t, j, one('a'), api.OK)
	wantCompact(t, j, one('Q'), api.OK)
	wantNoCompact(t, d, j, one('R'))
	j = open(t, d, one('Q'), 1)
	wantNoCompact(t, d, j, one('R'))
	wantAppend(t, j, one('b'), api.OK)
	j = open(t, d, one('Q'), 1, one('b'))
	wantCompact(t, j, nil, api.OK)
	open(t, d, nil, 2)
}

// P7.3: a picture behind each op, a hundred and more: the slots are written in turn, and the log is empty each time.
func TestCompactBehindEach(t *testing.T) {
	d := disk.New(220)
	j := open(t, d, nil, 0)
	var shown [2][]byte
	for k := range 300 {
		picture := mixed(k%40, k)
		switch k % 3 {
		case 0:
			wantAppend(t, j, mixed(k%90+1, k), api.OK)
		case 1:
			wantStart(t, j, mixed(k%90+1, k), api.OK)
		default:
			wantStart(t, j, one('a'), api.OK)
			d.Crash(8 + len(numBytes(k)) - 1)
			j = open(t, d, mixed((k-1)%40, k-1), k, one('a'))
		}
		wantCompact(t, j, picture, api.OK)
		wantCount(t, j, k+1)
		shown[k%2] = framed(record(k+1, picture))
		wantDisk(t, d, shaped(220, shown[0], shown[1], nil), 0)
		if k%4 == 0 {
			j = open(t, d, picture, k+1)
		}
	}
}

// P7.3: a picture that fills a slot to its last byte, and one that is a byte too long: ErrFull, and nothing is done.
func TestCompactFills(t *testing.T) {
	for _, count := range counts[:len(counts)-1] {
		for _, n := range []int{0, 1, 2, 3, 9, 10, 100, 117, 118, 119, 120, 121, 122, 123, 124, 125, 126, 127, 128, 129, 300, 3991, 3992} {
			for spare := -2; spare <= 2; spare++ {
				slot := recordSize(count+1, n) + spare
				if 4*slot < least {
					continue
				}
				for _, size := range []int{4 * slot, 4*slot + 3} {
					d := aged(t, size, count)
					j := open(t, d, nil, count)
					wantStart(t, j, one('a'), api.OK)
					if spare < 0 {
						wantNoCompact(t, d, j, mixed(n, 1))
						open(t, d, nil, count, one('a'))
						continue
					}
					wantCompact(t, j, mixed(n, 1), api.OK)
					wantDisk(t, d, shaped(size, framed(numBytes(count)), framed(record(count+1, mixed(n, 1))), nil), 0)
					open(t, d, mixed(n, 1), count+1)
				}
			}
		}
	}
}

// P7.3: a picture that isn't a payload any more with its age is ErrFull, though a slot has room for so many bytes.
func TestCompactOfNoPayload(t *testing.T) {
	for _, count := range counts[:len(counts)-1] {
		for _, size := range []int{4 * 4007, 20000, mostDisk} {
			d := aged(t, size, count)
			j := open(t, d, nil, count)
			wantAppend(t, j, one('a'), api.OK)
			longest := mostLoad - len(numBytes(count+1))
			for _, n := range []int{longest + 1, longest + 2, mostLoad, mostLoad + 1, 4096, 1 << 14, mostDisk, 1 << 17} {
				wantNoCompact(t, d, j, make([]byte, n))
			}
			wantCompact(t, j, mixed(longest, 1), api.OK)
			open(t, d, mixed(longest, 1), count+1)
		}
	}
}

// P7.3: behind a Compact a log that was full has room again, time and again.
func TestCompactMakesRoom(t *testing.T) {
	for _, size := range []int{64, 67, 101, 1000} {
		d := disk.New(size)
		j := open(t, d, nil, 0)
		n := 0
		for round := range 40 {
			for j.Room(1) {
				wantAppend(t, j, one(byte(n)), api.OK)
				n++
			}
			wantErrors(t, d, j, one('z'), api.ErrFull)
			wantCompact(t, j, one(byte(round)), api.OK)
			wantCount(t, j, n)
			if !j.Room(1) {
				t.Fatal("no room behind", n)
			}
		}
		open(t, d, one(39), n)
	}
}

// P7.2, P7.3: a nil journal.
func TestNil(t *testing.T) {
	var j *journal.Journal
	for range 2 {
		for _, b := range [][]byte{nil, {}, one('a'), make([]byte, most), make([]byte, most+1)} {
			wantAppend(t, j, b, api.ErrArg)
			wantStart(t, j, b, api.ErrArg)
			wantCompact(t, j, b, api.ErrArg)
		}
		for _, n := range append([]int{1, 2, most}, noOps...) {
			wantRoom(t, j, n, false)
		}
		wantCount(t, j, 0)
	}
}

// ends are some of the numbers from 0 to n: all, if they are few, else those around the ends, and some between.
func ends(n int) []int {
	var l []int
	for k := 0; k <= n; k++ {
		if n < 300 || k < 20 || k > n-20 || k%97 == 0 {
			l = append(l, k)
		}
	}
	return l
}

// P7.4: behind a crash that keeps each number of a Start's bytes, and Open, there are all ops that were appended, and that one, just if all its bytes last; it goes on from there.
func TestCrashOfStart(t *testing.T) {
	for _, count := range []int{0, 126, 127, greatest - 2} {
		for _, ahead := range []int{0, 1, 2} {
			for _, n := range []int{1, 2, 125, 126, 127, most} {
				var ops [][]byte
				for k := range ahead {
					ops = append(ops, mixed(k+1, k))
				}
				all := recordSize(count+ahead, n)
				for _, keep := range append(ends(all), -1, math.MinInt, all+1, math.MaxInt) {
					d := aged(t, 2*all+200, count)
					j := open(t, d, nil, count)
					for _, op := range ops {
						wantAppend(t, j, op, api.OK)
					}
					wantStart(t, j, mixed(n, 9), api.OK)
					if d.Waits() != all {
						t.Error("waits", d.Waits())
					}
					d.Crash(keep)
					want := slices.Clone(ops)
					if keep >= all {
						want = append(want, mixed(n, 9))
					}
					j = open(t, d, nil, count, want...)
					wantDisk(t, d, shaped(d.Size(), framed(numBytes(count)), nil, laid(records(count, want...)...)), 0)
					if count+len(want) > greatest {
						wantAppend(t, j, one('z'), api.ErrFull)
						continue
					}
					wantAppend(t, j, one('z'), api.OK)
					d.Crash(0)
					open(t, d, nil, count, append(want, one('z'))...)
				}
			}
		}
	}
}

// lasting is those of some ops that were started, the first behind count others, all of whose bytes last behind a crash that keeps so many.
func lasting(count int, ops [][]byte, keep int) [][]byte {
	k := 0
	for k < len(ops) && len(laid(records(count, ops[:k+1]...)...)) <= keep {
		k++
	}
	return ops[:k]
}

// startShapes are ops that are started one behind the other.
func startShapes() [][][]byte {
	return [][][]byte{
		list(one('a'), one('b'), one('c')),
		list([]byte("long enough"), one('b'), []byte("cde")),
		list(one('a'), laid(records(0, one('x'), one('y'))...), one('c')), // records within an op
		list(one(0), one(1), make([]byte, 127), bytes.Repeat(one(1), 128)),
		list(mixed(most, 1), mixed(126, 2), one('c')),
	}
}

// P7.4: behind several Starts a crash leaves those all of whose bytes last, behind those that were appended.
func TestCrashOfStarts(t *testing.T) {
	for _, ops := range startShapes() {
		for _, count := range []int{0, 125} {
			size := 2*len(laid(records(count, ops...)...)) + 300
			for _, keep := range ends(size/2 - 100) {
				d := aged(t, size, count)
				j := open(t, d, nil, count)
				wantAppend(t, j, one('s'), api.OK)
				for _, op := range ops {
					wantStart(t, j, op, api.OK)
				}
				d.Crash(keep)
				want := append(list(one('s')), lasting(count+1, ops, keep)...)
				j = open(t, d, nil, count, want...)
				wantDisk(t, d, shaped(size, framed(numBytes(count)), nil, laid(records(count, want...)...)), 0)
				wantCompact(t, j, one('P'), api.OK)
				open(t, d, one('P'), count+len(want))
			}
		}
	}
}

// P7.2: an Append behind several Starts makes all of them last.
func TestAppendBehindStarts(t *testing.T) {
	for _, ops := range startShapes() {
		d := disk.New(mostDisk)
		j := open(t, d, nil, 0)
		for _, op := range ops {
			wantStart(t, j, op, api.OK)
		}
		wantAppend(t, j, one('z'), api.OK)
		d.Crash(0)
		wantCount(t, j, len(ops)+1)
		wantStart(t, j, one('y'), api.OK)
		wantCount(t, j, len(ops)+2)
		d.Crash(0)
		wantCount(t, j, len(ops)+1)
		open(t, d, nil, 0, append(slices.Clone(ops), one('z'))...)
	}
}

// P7.4: whatever was torn there ahead, by one crash or by several, an op is there just if all its bytes last.
func TestTornAhead(t *testing.T) {
	nested := slices.Concat(make([]byte, 5), laid(records(1, one('x'), one('y'), []byte("zzz"))...), bytes.Repeat(framed(record(2, one('n'))), 3))
	shapes := list(one('a'), one('b'), []byte("abc"), nested, mixed(130, 1), make([]byte, 40), bytes.Repeat(one(1), 40))
	for _, torn := range shapes {
		for _, later := range shapes {
			all := recordSize(1, len(later))
			for kept := range recordSize(1, len(torn)) {
				for _, keep := range []int{0, 1, 2, all / 2, all - 1, all} {
					d := disk.New(400)
					j := open(t, d, nil, 0)
					wantAppend(t, j, one('s'), api.OK)
					wantStart(t, j, torn, api.OK)
					d.Crash(kept)
					j = open(t, d, nil, 0, one('s'))
					wantStart(t, j, later, api.OK)
					d.Crash(keep)
					if keep < all {
						open(t, d, nil, 0, one('s'))
					} else {
						open(t, d, nil, 0, one('s'), later)
					}
				}
			}
		}
	}
}

// P7.4: an op that is torn again and again, its disk opened by each, is there once all its bytes last.
func TestTornAgain(t *testing.T) {
	op := mixed(30, 1)
	all := recordSize(1, 30)
	d := disk.New(120)
	wantAppend(t, open(t, d, nil, 0), one('s'), api.OK)
	for keep := range 2 * all {
		j := open(t, d, nil, 0, one('s'))
		wantStart(t, j, op, api.OK)
		d.Crash(keep * 5 % all)
	}
	wantStart(t, open(t, d, nil, 0, one('s')), op, api.OK)
	d.Crash(all)
	for range 3 {
		open(t, d, nil, 0, one('s'), op)
		d.Crash(0)
	}
}

// P7.1, P7.4: a journal that is opened again and again has the same ops, and goes on behind them.
func TestOpenAgain(t *testing.T) {
	d := disk.New(2000)
	var want [][]byte
	var picture []byte
	age := 0
	for k := range 200 {
		j := open(t, d, picture, age, want...)
		op := mixed(k%9+1, k)
		switch k % 5 {
		case 0:
			wantAppend(t, j, op, api.OK)
			want = append(want, op)
			d.Crash(0)
		case 1, 2:
			wantStart(t, j, op, api.OK)
			want = append(want, op)
		case 3:
			wantStart(t, j, op, api.OK)
			d.Crash(k % 17)
			if k%17 >= recordSize(age+len(want), len(op)) {
				want = append(want, op)
			}
		case 4:
			if k%3 == 0 && len(want) > 0 {
				picture = mixed(k, k)
				age, want = age+len(want), nil
				wantCompact(t, j, picture, api.OK)
			}
		}
	}
	open(t, d, picture, age, want...)
}

// stages are the bytes that last behind a crash at each byte of a Compact, and whether the new picture is whole there: the other slot's noughts, its frame, the log's noughts, one behind the other.
func stages(b []byte, other int, frame []byte) (l [][]byte, saved []bool) {
	q := len(b) / 4
	at := func(place int, write []byte, whole func(k int) bool) {
		for k := range len(write) + 1 {
			c := bytes.Clone(b)
			copy(c[place:], write[:k])
			l, saved = append(l, c), append(saved, whole(k))
		}
		copy(b[place:], write)
	}
	b = bytes.Clone(b)
	at(other*q, make([]byte, q), func(int) bool { return false })
	at(other*q, frame, func(k int) bool { return k == len(frame) })
	at(2*q, make([]byte, len(b)-2*q), func(int) bool { return true })
	return l, saved
}

// P7.4: behind a crash at each byte of a Compact, and Open, there are the ops, or the picture in their place; the number of them is the same, and all goes on from there.
func TestCrashOfCompact(t *testing.T) {
	old, elder := framed(record(126, one('o'))), framed(record(124, []byte("elder picture")))
	ops := list(one('a'), []byte("bc"), one('d'))
	for _, x := range []struct {
		first, second, picture []byte
		age, other             int
	}{
		{nil, nil, nil, 0, 0},
		{old, nil, one('o'), 126, 1},
		{old, elder, one('o'), 126, 1},
		{elder, old, one('o'), 126, 0},
	} {
		for _, picture := range list(nil, one('P'), mixed(22, 1)) {
			size := 127
			b := shaped(size, x.first, x.second, laid(records(x.age, ops...)...))
			l, saved := stages(b, x.other, framed(record(x.age+3, picture)))
			for k, c := range l {
				d := newDisk(t, c)
				var j *journal.Journal
				if saved[k] {
					j = open(t, d, picture, x.age+3)
					if rest := d.Bytes()[2*(size/4):]; !bytes.Equal(rest, make([]byte, len(rest))) {
						t.Fatal("the log isn't cleared")
					}
					wantNoCompact(t, d, j, picture)
					wantAppend(t, j, one('z'), api.OK)
					open(t, d, picture, x.age+3, one('z'))
					continue
				}
				j = open(t, d, x.picture, x.age, ops...)
				wantCompact(t, j, picture, api.OK)
				j = open(t, d, picture, x.age+3)
				wantAppend(t, j, one('z'), api.OK)
				open(t, d, picture, x.age+3, one('z'))
			}
			d := newDisk(t, b) // what a Compact does is the last stage
			wantCompact(t, open(t, d, x.picture, x.age, ops...), picture, api.OK)
			wantDisk(t, d, l[len(l)-1], 0)
		}
	}
}

// P7.4: behind a Compact nothing waits: a crash that keeps none, one, or all leaves the picture, and an op that is started behind it is torn as any.
func TestCrashBehindCompact(t *testing.T) {
	for _, keep := range []int{-1, 0, 1, 7, 8, 9, math.MaxInt} {
		d := disk.New(200)
		j := open(t, d, nil, 0)
		wantStart(t, j, one('a'), api.OK)
		wantStart(t, j, one('b'), api.OK)
		wantCompact(t, j, one('P'), api.OK)
		d.Crash(keep)
		wantCount(t, j, 2)
		wantStart(t, j, one('c'), api.OK)
		wantCount(t, j, 3)
		d.Crash(keep)
		if keep >= 8 {
			open(t, d, one('P'), 2, one('c'))
		} else {
			open(t, d, one('P'), 2)
		}
	}
}

// P7.1 to P7.4: a journal that isn't opened behind a crash has the ops that are there, and goes on with their number.
func TestCrashWithoutOpen(t *testing.T) {
	for _, ops := range startShapes() {
		for _, then := range []string{"append", "start", "compact", "room"} {
			size := 2*len(laid(records(1, ops...)...)) + 400
			for _, keep := range ends(size/2 - 150) {
				d := disk.New(size)
				j := open(t, d, nil, 0)
				wantAppend(t, j, one('s'), api.OK)
				for _, op := range ops {
					wantStart(t, j, op, api.OK)
				}
				d.Crash(keep)
				want := append(list(one('s')), lasting(1, ops, keep)...)
				wantCount(t, j, len(want))
				switch then {
				case "append":
					wantAppend(t, j, one('z'), api.OK)
					d.Crash(0)
					wantCount(t, j, len(want)+1)
					open(t, d, nil, 0, append(want, one('z'))...)
				case "start":
					wantStart(t, j, []byte("zz"), api.OK)
					wantStart(t, j, one('y'), api.OK)
					wantCount(t, j, len(want)+2)
					d.Crash(9)
					wantCount(t, j, len(want)+1)
					open(t, d, nil, 0, append(want, []byte("zz"))...)
				case "compact":
					wantCompact(t, j, one('P'), api.OK)
					wantCount(t, j, len(want))
					wantAppend(t, j, one('z'), api.OK)
					open(t, d, one('P'), len(want), one('z'))
				case "room":
					left := size - 2*(size/4) - len(laid(records(0, want...)...))
					for _, n := range []int{0, 1, left - 9, left - 8, left - 7, left - 6} {
						wantRoom(t, j, n, n > 0 && n <= most && recordSize(len(want), n) <= left)
					}
					open(t, d, nil, 0, want...)
				}
			}
		}
	}
}

// P7.3: behind a crash that took all ops that were started since the last picture there are none to compact, the journal opened again or not.
func TestCompactBehindCrash(t *testing.T) {
	d := disk.New(200)
	j := open(t, d, nil, 0)
	wantAppend(t, j, one('a'), api.OK)
	wantCompact(t, j, one('P'), api.OK)
	for range 2 {
		wantStart(t, j, one('b'), api.OK)
		d.Crash(7)
		wantNoCompact(t, d, j, one('Q'))
		wantCount(t, j, 1)
		j = open(t, d, one('P'), 1)
		wantNoCompact(t, d, j, one('Q'))
	}
	wantStart(t, j, one('b'), api.OK)
	d.Crash(8)
	wantCompact(t, j, one('Q'), api.OK)
	open(t, d, one('Q'), 2)
}

// words is a disk with a journal, as the chapters' words say, byte by byte.
type words struct {
	lasts     []byte
	places    []int // of the bytes that wait
	waits     []byte
	syncs     int
	base, had int // how many ops there were, when the log had so many records
}

func (w *words) quarter() int { return len(w.lasts) / 4 }

func (w *words) read() []byte {
	b := bytes.Clone(w.lasts)
	for i, at := range w.places {
		b[at] = w.waits[i]
	}
	return b
}

func (w *words) write(at int, b []byte) {
	for i, c := range b {
		w.places, w.waits = append(w.places, at+i), append(w.waits, c)
	}
}

func (w *words) crash(keep int) {
	for i, at := range w.places[:min(max(keep, 0), len(w.places))] {
		w.lasts[at] = w.waits[i]
	}
	w.places, w.waits = nil, nil
}

func (w *words) sync() {
	w.crash(len(w.places))
	w.syncs++
}

// whole is the payload of the frame at the start of bytes.
func whole(b []byte) ([]byte, bool) {
	n, from, ok := number(b)
	if !ok || n < 1 || n > mostLoad || frameSize(n) > len(b) {
		return nil, false
	}
	p := b[from : from+n]
	return p, bytes.HasPrefix(b, framed(p))
}

// log is the log's records, and where they end.
func (w *words) log() ([][]byte, int) {
	b := w.read()[2*w.quarter():]
	var l [][]byte
	end := 0
	for {
		p, ok := whole(b[end:])
		if !ok {
			return l, end
		}
		l, end = append(l, p), end+frameSize(len(p))
	}
}

// picture is what there is, its age (below 0: there is none), and the other slot's place.
func (w *words) picture() (picture []byte, age, other int) {
	q := w.quarter()
	b := w.read()
	age = -1
	for _, at := range []int{0, q} {
		p, is := whole(b[at : at+q])
		if n, size, ok := number(p); is && ok && n > age {
			picture, age, other = p[size:], n, q-at
		}
	}
	return picture, age, other
}

// cut makes noughts of all bytes of the log from a place on, that last.
func (w *words) cut(end int) {
	w.sync()
	clear(w.lasts[2*w.quarter()+end:])
}

// tells is the ops that records tell behind an age, and whether all of them are elder.
func tells(l [][]byte, age int) (ops [][]byte, old bool) {
	old = len(l) > 0
	over := false // nothing counts any more
	for _, r := range l {
		n, size, ok := number(r)
		old = old && ok && n < age
		is := ok && len(r)-size >= 1 && len(r)-size <= most && n <= age+len(ops)
		over = over || !is
		if !over && n == age+len(ops) {
			ops = append(ops, r[size:])
		}
	}
	return ops, old
}

// open is what the disk tells, the log made as Open makes it.
func (w *words) open() (picture []byte, age int, ops [][]byte) {
	l, end := w.log()
	w.cut(end)
	picture, age, _ = w.picture()
	age = max(age, 0)
	ops, old := tells(l, age)
	if old {
		w.cut(0)
		l = nil
	}
	w.base, w.had = age+len(ops), len(l)
	return picture, age, ops
}

func (w *words) count() int {
	l, _ := w.log()
	return w.base + len(l) - w.had
}

func (w *words) room(n int) bool {
	_, end := w.log()
	count := w.count()
	return n >= 1 && n <= most && count <= greatest && recordSize(count, n) <= len(w.lasts)-2*w.quarter()-end
}

func (w *words) start(op []byte) api.Errno {
	switch _, end := w.log(); {
	case len(op) < 1 || len(op) > most:
		return api.ErrArg
	case !w.room(len(op)):
		return api.ErrFull
	default:
		f, at := framed(record(w.count(), op)), 2*w.quarter()+end
		if w.read()[at] != 0 { // torn, and not opened again
			w.cut(end)
		}
		w.write(at, f)
	}
	return api.OK
}

func (w *words) append(op []byte) api.Errno {
	e := w.start(op)
	if e == api.OK {
		w.sync()
	}
	return e
}

func (w *words) compact(picture []byte) api.Errno {
	count := w.count()
	_, age, other := w.picture()
	f := framed(record(count, picture))
	if count > greatest || age == count || len(record(count, picture)) > mostLoad || len(f) > w.quarter() {
		return api.ErrFull
	}
	w.sync()
	clear(w.lasts[other : other+w.quarter()])
	w.write(other, f)
	w.sync()
	w.cut(0)
	w.base, w.had = count, 0
	return api.OK
}

// both is a disk with a journal, and what the words say of it.
type both struct {
	d *disk.Disk
	j *journal.Journal
	w *words
}

func newBoth(t *testing.T, b []byte) *both {
	t.Helper()
	x := &both{d: newDisk(t, b), w: &words{lasts: bytes.Clone(b), syncs: 1}}
	x.do(t, step{what: "open"})
	return x
}

// step is something that is done to a journal, or its disk.
type step struct {
	what string
	n    int
	p    []byte
}

func (x *both) do(t *testing.T, s step) {
	t.Helper()
	switch s.what {
	case "open":
		picture, age, ops := x.w.open()
		x.j = open(t, x.d, picture, age, ops...)
	case "start":
		wantStart(t, x.j, s.p, x.w.start(s.p))
	case "append":
		wantAppend(t, x.j, s.p, x.w.append(s.p))
	case "compact":
		wantCompact(t, x.j, s.p, x.w.compact(s.p))
	case "crash":
		x.d.Crash(s.n)
		x.w.crash(s.n)
	case "sync": // of the disk, by whom it is
		x.d.Sync()
		x.w.sync()
	}
	wantCount(t, x.j, x.w.count())
	wantDisk(t, x.d, x.w.read(), len(x.w.waits))
	if x.d.Syncs() != x.w.syncs {
		t.Errorf("syncs %d, not %d", x.d.Syncs(), x.w.syncs)
	}
	_, end := x.w.log()
	left := len(x.w.lasts) - 2*x.w.quarter() - end
	for _, n := range []int{0, 1, 2, left - 9, left - 8, left - 7, left - 6} {
		wantRoom(t, x.j, n, x.w.room(n))
	}
}

// starts are disks of 66 bytes to go on from: of noughts, with pictures, with logs that are as they should be, and others.
func starts() [][]byte {
	a := one('a')
	return [][]byte{
		make([]byte, 66),
		shaped(66, framed(record(126, one('p'))), framed(record(125, one('q'))), laid(records(126, a, a)...)),
		shaped(66, framed(record(3, one('p'))), framed(record(3, one('q'))), laid(records(1, a, a)...)),
		shaped(66, nil, framed(record(1, one('q'))), laid(records(0, a, a)...)),
		shaped(66, framed(record(0, nil)), nil, laid(record(2, a))),
		shaped(66, nil, nil, laid(record(0, a), numBytes(1))),
		shaped(66, framed([]byte{128}), nil, laid(record(0, a), []byte{128, 0})),
		shaped(66, framed(record(greatest-1, nil)), nil, laid(record(greatest-1, a))),
		bytes.Repeat(one(255), 66),
	}
}

// P7.1 to P7.4: each run of few steps of a small journal is what the words say, from several disks on.
func TestEveryRun(t *testing.T) {
	steps := []step{{what: "open"}, {what: "sync"}, {what: "compact"}, {what: "append"}}
	for _, n := range []int{0, 1, 7, 8, 9, 16, 100} {
		steps = append(steps, step{what: "crash", n: n})
	}
	for _, p := range list(one('a'), []byte{1, 1}) {
		steps = append(steps, step{what: "start", p: p}, step{what: "append", p: p}, step{what: "compact", p: p})
	}
	steps = append(steps, step{what: "compact", p: mixed(9, 1)}, step{what: "compact", p: mixed(10, 1)}, step{what: "start", p: mixed(27, 1)})
	for from, b := range starts() {
		for run := range len(steps) * len(steps) * len(steps) {
			x := newBoth(t, b)
			trace := []step{{what: "start", p: []byte("b")}}
			for left := run; len(trace) < 4; left /= len(steps) {
				trace = append(trace, steps[left%len(steps)])
			}
			for _, s := range append(trace, step{what: "open"}) {
				x.do(t, s)
			}
			if t.Failed() {
				t.Fatal("disk", from, "run", trace)
			}
		}
	}
}

// chance is a plain row of numbers, the same one each time.
type chance uint64

func (c *chance) below(n int) int {
	*c = *c*6364136223846793005 + 1442695040888963407
	return int(uint64(*c) >> 33 % uint64(n))
}

// anyStep is a step of any kind: mostly what writes, and often an open behind a crash.
func (c *chance) anyStep(k, longest, waits int) step {
	switch n := c.below(20); {
	case n < 6:
		return step{what: "start", p: mixed(c.below(longest), k)}
	case n < 10:
		return step{what: "append", p: mixed(c.below(longest), k)}
	case n < 13:
		return step{what: "crash", n: c.below(waits+3) - 1}
	case n < 16:
		return step{what: "open"}
	case n < 19:
		return step{what: "compact", p: mixed(c.below(longest), k)}
	}
	return step{what: "sync"}
}

// P7.1 to P7.4: long runs of journals of all sizes are what the words say.
func TestLongRuns(t *testing.T) {
	c := chance(1)
	for _, x := range []struct{ disk, longest, steps int }{
		{64, 3, 2000}, {65, 12, 2000}, {67, 30, 1000}, {100, 9, 3000}, {303, 40, 3000}, {1000, 20, 2000}, {1200, 300, 2000}, {17000, 3903, 300}, {mostDisk, 4003, 60},
	} {
		y := newBoth(t, make([]byte, x.disk))
		for k := range x.steps {
			s := c.anyStep(k, x.longest, len(y.w.waits))
			if y.do(t, s); t.Failed() {
				t.Fatalf("disk of %d, step %d: %s %d %d", x.disk, k, s.what, s.n, len(s.p))
			}
		}
	}
}

// anyRecord is a log's record of any kind, of a number about a count.
func (c *chance) anyRecord(count, k int) []byte {
	n := max(count+c.below(5)-2, 0)
	switch c.below(12) {
	case 0:
		return numBytes(n)
	case 1:
		return []byte{byte(128 + c.below(128)), 0, 'a'}
	case 2:
		return record(n, mixed(most+c.below(2), k))
	case 3, 4:
		return record(max(count-1-c.below(4), 0), mixed(1+c.below(9), k))
	}
	return record(n, mixed(1+c.below(9), k))
}

// anyDisk is a disk's bytes of any kind: pictures, records, and what was torn or changed there.
func (c *chance) anyDisk(k int) []byte {
	size := least + c.below(300)
	if k%20 == 0 {
		size = 20000
	}
	age := c.below(4) * c.below(50)
	slot := func() []byte {
		f := framed(record(max(age-c.below(3), 0), mixed(c.below(12), k)))
		return f[:min(len(f)-c.below(2)*c.below(3), size/4)]
	}
	var l []byte
	for n := age; ; n++ {
		l = append(l, framed(c.anyRecord(n, k))...)
		if c.below(6) == 0 {
			break
		}
	}
	b := shaped(size, slot(), slot(), l[:min(len(l), size-2*(size/4))])
	for range c.below(3) * c.below(3) {
		b[c.below(size)] ^= byte(1 << c.below(8))
	}
	if k%50 == 0 {
		b = mixed(size, k)
	}
	return b
}

// P7.1: disks whose bytes are anything tell what the words say, and what is done to them is what the words say.
func TestAnyBytes(t *testing.T) {
	c := chance(2)
	for k := range 20000 {
		b := c.anyDisk(k)
		x := newBoth(t, b)
		for i := range c.below(6) {
			x.do(t, c.anyStep(i, 30, len(x.w.waits)))
		}
		if x.do(t, step{what: "open"}); t.Failed() {
			t.Fatalf("disk %d: % .400x", k, b)
		}
	}
}

// P7.4: long runs of a journal's own steps, each crash followed by Open: there are all ops that were appended, in their order, and of those that were started behind them the first ones.
func TestNothingIsLost(t *testing.T) {
	c := chance(3)
	for _, size := range []int{64, 70, 130, 500, 3000} {
		d := disk.New(size)
		j := open(t, d, nil, 0)
		var sure, started [][]byte // those that were noted since the last picture
		var picture []byte
		age := 0
		for k := range 3000 {
			op := mixed(1+c.below(size/10), k)
			switch c.below(7) {
			case 0, 1:
				if j.Append(op) == api.OK {
					sure, started = append(append(sure, started...), op), nil
				}
			case 2, 3:
				if j.Start(op) == api.OK {
					started = append(started, op)
				}
			case 4:
				count := j.Count()
				if p := mixed(c.below(size/8), k); j.Compact(p) == api.OK {
					picture, age, sure, started = p, count, nil, nil
				}
			case 5:
				keep := c.below(d.Waits() + 2)
				sure = append(sure, lasting(age+len(sure), started, keep)...)
				started = nil
				d.Crash(keep)
				j = open(t, d, picture, age, sure...)
			case 6:
				sure, started = append(sure, started...), nil
				j = open(t, d, picture, age, sure...)
			}
			wantCount(t, j, age+len(sure)+len(started))
			if t.Failed() {
				t.Fatal("a disk of", size, "step", k)
			}
		}
	}
}

// Rule 4: what is handed in is neither changed nor kept, its spare room included.
func TestHandedIn(t *testing.T) {
	room := mixed(300, 1)
	was := bytes.Clone(room)
	d := disk.New(900)
	j := open(t, d, nil, 0)
	wantStart(t, j, room[1:4:9], api.OK)
	wantAppend(t, j, room[10:138], api.OK)
	wantStart(t, j, room[:0], api.ErrArg)
	wantStart(t, j, room[20:21], api.OK)
	wantCompact(t, j, room[:250], api.ErrFull)
	wantStart(t, j, room[:290], api.ErrFull)
	if !bytes.Equal(room, was) {
		t.Error("changed")
	}
	clear(room) // by its owner
	open(t, d, nil, 0, was[1:4], was[10:138], was[20:21])
	copy(room, was)
	j = open(t, d, nil, 0, was[1:4], was[10:138], was[20:21])
	wantCompact(t, j, room[30:70], api.OK)
	wantStart(t, j, room[5:8], api.OK)
	if !bytes.Equal(room, was) {
		t.Error("changed")
	}
	clear(room)
	open(t, d, was[30:70], 3, was[5:8])
}

// spoil writes over a list and its spare room.
func spoil(b []byte) {
	b = b[:cap(b)]
	for i := range b {
		b[i] = 99
	}
}

// Rule 4: a picture and ops that are answered are new memory, their spare room too, each one; what is done later doesn't change them.
func TestHandedOut(t *testing.T) {
	all := list(one('a'), mixed(128, 1), []byte("bcd"))
	picture := mixed(60, 2)
	d := newDisk(t, shaped(600, framed(record(300, picture)), nil, laid(records(300, all...)...)))
	_, p, first, _ := journal.Open(d)
	_, q, second, _ := journal.Open(d)
	spoil(first[0])
	_ = append(first[1], 99, 99, 99)
	if !bytes.Equal(first[1], all[1]) || !bytes.Equal(first[2], all[2]) || !bytes.Equal(p, picture) {
		t.Error("lists of one answer share")
	}
	spoil(p)
	if !bytes.Equal(first[1], all[1]) || !bytes.Equal(first[2], all[2]) {
		t.Error("lists of one answer share")
	}
	spoil(first[2])
	spoil(first[1])
	full := first[:cap(first)]
	for i := range full {
		full[i] = nil
	}
	if !slices.EqualFunc(second, all, bytes.Equal) || !bytes.Equal(q, picture) {
		t.Error("two answers share")
	}
	j := open(t, d, picture, 300, all...)
	wantStart(t, j, one('z'), api.OK)
	wantCompact(t, j, one('Q'), api.OK)
	wantAppend(t, j, one('y'), api.OK)
	wantCompact(t, j, one('R'), api.OK)
	if !slices.EqualFunc(second, all, bytes.Equal) || !bytes.Equal(q, picture) {
		t.Error("an answer was changed later")
	}
}

// Rule 6: journals of two disks don't hang on each other, nor an answer on what was asked ahead.
func TestApart(t *testing.T) {
	first, other := disk.New(100), disk.New(100)
	x, y := open(t, first, nil, 0), open(t, other, nil, 0)
	wantStart(t, x, one('a'), api.OK)
	wantCount(t, y, 0)
	wantAppend(t, y, []byte("bc"), api.OK)
	wantAppend(t, y, one('d'), api.OK)
	for range 3 {
		wantCount(t, x, 1)
		wantCount(t, y, 2)
		wantRoom(t, x, 35, true)
		wantRoom(t, x, 36, false)
		wantRoom(t, y, 26, true)
		wantRoom(t, y, 27, false)
	}
	wantCompact(t, y, one('P'), api.OK)
	first.Crash(0)
	wantCount(t, x, 0)
	wantCount(t, y, 2)
	wantDisk(t, first, make([]byte, 100), 0)
	open(t, other, one('P'), 2)
}

// The journal's slots and log are those of layers 5 and 6: what these put there is told, and what a journal puts there these read.
func TestLayersBelow(t *testing.T) {
	for _, size := range []int{200, 201, 202, 203} {
		q := size / 4
		d := disk.New(size)
		s, _ := slots.Open(d, 0, q)
		l, _, _ := log.Open(d, 2*q, size-2*q)
		if s.Save([]byte("pic"), 7) != api.OK || l.Append(record(7, []byte("op"))) != api.OK || l.Put(record(8, one('p'))) != api.OK {
			t.Fatal("not put")
		}
		j := open(t, d, []byte("pic"), 7, []byte("op"), one('p'))
		wantCompact(t, j, []byte("later"), api.OK)
		wantAppend(t, j, one('q'), api.OK)
		if p, age, ok := s.Load(); !ok || age != 9 || string(p) != "later" {
			t.Error("picture", p, age, ok)
		}
		if _, got, e := log.Open(d, 2*q, size-2*q); e != api.OK || !slices.EqualFunc(got, list(record(9, one('q'))), bytes.Equal) {
			t.Error("records", got, e)
		}
	}
}
