package disk_test

import (
	"bytes"
	"math"
	"testing"

	"dunnage/api"
	"dunnage/disk"
)

const most = 65536 // bytes of a disk

// oneByte is a byte that was written and waits.
type oneByte struct {
	at int
	b  byte
}

// words is a disk as the chapter's words say, byte by byte.
type words struct {
	lasts []byte
	waits []oneByte
	syncs int
}

func (w *words) write(at int, b []byte) api.Errno {
	switch {
	case at < 0:
		return api.ErrArg
	case uint64(at)+uint64(len(b)) > uint64(len(w.lasts)):
		return api.ErrFull
	}
	for i, x := range b {
		w.waits = append(w.waits, oneByte{at + i, x})
	}
	return api.OK
}

func (w *words) crash(keep int) {
	for i, x := range w.waits {
		if i < keep {
			w.lasts[x.at] = x.b
		}
	}
	w.waits = nil
}

func (w *words) sync() {
	w.crash(len(w.waits))
	w.syncs++
}

func (w *words) read() []byte {
	b := bytes.Clone(w.lasts)
	for _, x := range w.waits {
		b[x.at] = x.b
	}
	return b
}

// both is a disk, and what the words say of it.
type both struct {
	d *disk.Disk
	w *words
}

func newBoth(size int) both {
	return both{disk.New(size), &words{lasts: make([]byte, size)}}
}

// step is something that is done to a disk: bytes are written there, or it is synced, or it crashes and keeps at bytes.
type step struct {
	what string
	at   int
	b    []byte
}

func (x both) do(t *testing.T, s step) {
	t.Helper()
	switch s.what {
	case "write":
		if got, want := x.d.Write(s.at, s.b), x.w.write(s.at, s.b); got != want {
			t.Errorf("Write(%d, %d bytes): %d, not %d", s.at, len(s.b), got, want)
		}
	case "sync":
		x.d.Sync()
		x.w.sync()
	case "crash":
		x.d.Crash(s.at)
		x.w.crash(s.at)
	}
}

func (x both) alike() bool {
	return x.d.Size() == len(x.w.lasts) && x.d.Waits() == len(x.w.waits) && x.d.Syncs() == x.w.syncs && bytes.Equal(x.d.Bytes(), x.w.read())
}

// mixed is n bytes, none of them 0, other ones for each seed.
func mixed(n, seed int) []byte {
	b := make([]byte, n)
	for i := range b {
		b[i] = byte((i*7+i/251+seed*31)%255 + 1)
	}
	return b
}

func wantBytes(t *testing.T, d *disk.Disk, want ...byte) {
	t.Helper()
	if got := d.Bytes(); !bytes.Equal(got, want) {
		t.Errorf("bytes %v, not %v", got, want)
	}
}

func wantWaits(t *testing.T, d *disk.Disk, waits, syncs int) {
	t.Helper()
	if d.Waits() != waits || d.Syncs() != syncs {
		t.Errorf("waits %d syncs %d, not %d and %d", d.Waits(), d.Syncs(), waits, syncs)
	}
}

func wantWrite(t *testing.T, d *disk.Disk, at int, b []byte, want api.Errno) {
	t.Helper()
	if got := d.Write(at, b); got != want {
		t.Errorf("Write(%d, %d bytes) of a disk of %d: %d, not %d", at, len(b), d.Size(), got, want)
	}
}

// The chapter's own example.
func TestExample(t *testing.T) {
	d := disk.New(4)
	wantWrite(t, d, 0, []byte{1, 2}, api.OK)
	d.Sync()
	wantWrite(t, d, 1, []byte{3, 4}, api.OK)
	wantBytes(t, d, 1, 3, 4, 0)
	d.Crash(1)
	wantBytes(t, d, 1, 3, 0, 0)
	wantWaits(t, d, 0, 1)
}

// P4.1: sizes from 1 to 65,536, all bytes 0; nil of others.
func TestNew(t *testing.T) {
	for _, size := range []int{1, 2, 3, 63, 64, 255, 256, 257, 4000, 32767, 32768, 65534, 65535, most} {
		d := disk.New(size)
		if d == nil {
			t.Fatal("no disk of", size)
		}
		if d.Size() != size || !bytes.Equal(d.Bytes(), make([]byte, size)) {
			t.Errorf("size %d, %d bytes, not %d noughts", d.Size(), len(d.Bytes()), size)
		}
		wantWaits(t, d, 0, 0)
	}
	for _, size := range []int{0, -1, -2, -most, most + 1, most + 2, 2 * most, 1 << 32, 1<<32 + 1, math.MaxInt, math.MinInt, math.MinInt + 1} {
		if disk.New(size) != nil {
			t.Error("a disk of", size)
		}
	}
}

// P4.1: what waits is counted byte by byte, though it is written over or is what was there; syncs are counted, of nothing too, and crashes aren't.
func TestCounts(t *testing.T) {
	d := disk.New(5)
	wantWrite(t, d, 0, []byte{1, 2, 3}, api.OK)
	wantWaits(t, d, 3, 0)
	wantWrite(t, d, 0, []byte{1, 2, 3}, api.OK)
	wantWaits(t, d, 6, 0)
	wantWrite(t, d, 1, []byte{9, 9, 9, 9}, api.OK)
	wantWrite(t, d, 4, []byte{0}, api.OK)
	wantWaits(t, d, 11, 0)
	d.Sync()
	wantWaits(t, d, 0, 1)
	d.Sync()
	d.Sync()
	wantWaits(t, d, 0, 3)
	wantWrite(t, d, 0, []byte{7, 7}, api.OK)
	d.Crash(1)
	wantWaits(t, d, 0, 3)
	d.Crash(0)
	wantWrite(t, d, 0, []byte{7, 7}, api.OK)
	d.Crash(2)
	wantWaits(t, d, 0, 3)
	if d.Size() != 5 {
		t.Error("size", d.Size())
	}
	wantBytes(t, d, 7, 7, 9, 9, 0)
}

// P4.2: places and numbers of bytes around each end, the errors in their order; what isn't OK changes nothing.
func TestWrite(t *testing.T) {
	d := disk.New(6)
	d.Write(0, []byte{1, 2, 3, 4, 5, 6})
	d.Sync()
	d.Write(3, []byte{7})
	for _, x := range []struct {
		at, n int
		want  api.Errno
	}{
		{-1, 0, api.ErrArg}, {-1, 1, api.ErrArg}, {-1, 7, api.ErrArg}, {-1, 8, api.ErrArg}, {-6, 6, api.ErrArg}, {math.MinInt, 0, api.ErrArg}, {math.MinInt, 9, api.ErrArg}, {math.MinInt + 1, 1, api.ErrArg},
		{0, 7, api.ErrFull}, {1, 6, api.ErrFull}, {5, 2, api.ErrFull}, {6, 1, api.ErrFull}, {7, 0, api.ErrFull}, {7, 1, api.ErrFull}, {0, 70000, api.ErrFull}, {6, 70000, api.ErrFull},
		{1 << 32, 0, api.ErrFull}, {1 << 32, 3, api.ErrFull}, {math.MaxInt, 0, api.ErrFull}, {math.MaxInt, 1, api.ErrFull}, {math.MaxInt - 1, 2, api.ErrFull}, {math.MaxInt - 5, 6, api.ErrFull}, {math.MaxInt, 70000, api.ErrFull},
	} {
		wantWrite(t, d, x.at, mixed(x.n, 1), x.want)
		wantBytes(t, d, 1, 2, 3, 7, 5, 6)
		wantWaits(t, d, 1, 1)
	}
	for _, at := range []int{0, 1, 5, 6} { // no bytes
		wantWrite(t, d, at, nil, api.OK)
		wantWrite(t, d, at, []byte{}, api.OK)
		wantBytes(t, d, 1, 2, 3, 7, 5, 6)
		wantWaits(t, d, 1, 1)
	}
	for at := range 7 { // up to where the disk ends, and over all of it
		d := disk.New(6)
		wantWrite(t, d, at, bytes.Repeat([]byte{9}, 6-at), api.OK)
		wantBytes(t, d, append(make([]byte, at), bytes.Repeat([]byte{9}, 6-at)...)...)
		wantWaits(t, d, 6-at, 0)
		d.Sync()
		wantBytes(t, d, append(make([]byte, at), bytes.Repeat([]byte{9}, 6-at)...)...)
	}
}

// P4.2: of writes that meet the later one is read, and lasts; those beside each other leave each other alone.
func TestWritesMeet(t *testing.T) {
	for _, x := range []struct {
		l    []step
		want []byte
	}{
		{[]step{{"write", 0, []byte{1, 1}}, {"write", 2, []byte{2, 2}}}, []byte{1, 1, 2, 2, 0}},
		{[]step{{"write", 2, []byte{2, 2}}, {"write", 0, []byte{1, 1}}}, []byte{1, 1, 2, 2, 0}},
		{[]step{{"write", 0, []byte{1, 1, 1}}, {"write", 2, []byte{2, 2}}}, []byte{1, 1, 2, 2, 0}},
		{[]step{{"write", 2, []byte{2, 2}}, {"write", 0, []byte{1, 1, 1}}}, []byte{1, 1, 1, 2, 0}},
		{[]step{{"write", 0, []byte{1, 1, 1, 1, 1}}, {"write", 1, []byte{2, 2}}}, []byte{1, 2, 2, 1, 1}},
		{[]step{{"write", 1, []byte{2, 2}}, {"write", 0, []byte{1, 1, 1, 1, 1}}}, []byte{1, 1, 1, 1, 1}},
		{[]step{{"write", 1, []byte{2, 2}}, {"write", 1, []byte{0, 3}}}, []byte{0, 0, 3, 0, 0}},
		{[]step{{"write", 4, []byte{1}}, {"write", 4, []byte{2}}, {"write", 4, []byte{3}}}, []byte{0, 0, 0, 0, 3}},
	} {
		d := disk.New(5)
		for _, s := range x.l {
			wantWrite(t, d, s.at, s.b, api.OK)
		}
		wantBytes(t, d, x.want...)
		d.Sync()
		wantBytes(t, d, x.want...)
		d.Crash(0)
		wantBytes(t, d, x.want...)
	}
}

// P4.3: a crash keeps the first bytes in the order of writing, not of places; in the midst of a write too; the rest is lost for good.
func TestCrash(t *testing.T) {
	for _, x := range []struct {
		keep int
		want []byte
	}{
		{math.MinInt, []byte{9, 9, 9, 9, 9}}, {math.MinInt + 1, []byte{9, 9, 9, 9, 9}}, {-7, []byte{9, 9, 9, 9, 9}}, {-1, []byte{9, 9, 9, 9, 9}},
		{0, []byte{9, 9, 9, 9, 9}},
		{1, []byte{9, 9, 9, 1, 9}},
		{2, []byte{9, 9, 9, 1, 2}}, // behind the first write
		{3, []byte{9, 3, 9, 1, 2}},
		{4, []byte{9, 3, 4, 1, 2}},
		{5, []byte{9, 3, 4, 5, 2}}, // over a byte that was written ahead
		{6, []byte{6, 3, 4, 5, 2}}, // all but one
		{7, []byte{6, 7, 4, 5, 2}},
		{8, []byte{6, 7, 4, 5, 2}}, {9, []byte{6, 7, 4, 5, 2}}, {1 << 32, []byte{6, 7, 4, 5, 2}}, {math.MaxInt, []byte{6, 7, 4, 5, 2}},
	} {
		d := disk.New(5)
		d.Write(0, []byte{9, 9, 9, 9, 9})
		d.Sync()
		d.Write(3, []byte{1, 2})
		d.Write(5, nil)
		d.Write(1, []byte{3, 4, 5})
		d.Write(0, []byte{6, 7})
		d.Crash(x.keep)
		wantBytes(t, d, x.want...)
		wantWaits(t, d, 0, 1)
		d.Crash(7) // what was lost doesn't come back
		wantBytes(t, d, x.want...)
		d.Sync()
		wantBytes(t, d, x.want...)
		wantWaits(t, d, 0, 2)
		d.Write(2, []byte{8}) // nor is it ahead of what is written behind
		wantWaits(t, d, 1, 2)
		d.Crash(1)
		x.want[2] = 8
		wantBytes(t, d, x.want...)
	}
}

// P4.3: syncs and crashes of a disk on which nothing waits.
func TestNothingWaits(t *testing.T) {
	d := disk.New(3)
	for _, keep := range []int{math.MinInt, -1, 0, 1, 3, math.MaxInt} {
		d.Crash(keep)
		wantBytes(t, d, 0, 0, 0)
		wantWaits(t, d, 0, 0)
	}
	d.Sync()
	wantBytes(t, d, 0, 0, 0)
	wantWaits(t, d, 0, 1)
	d.Write(1, []byte{5})
	d.Sync()
	d.Sync()
	d.Crash(2)
	wantBytes(t, d, 0, 5, 0)
	wantWaits(t, d, 0, 3)
	d.Write(1, nil)
	d.Sync()
	d.Crash(0)
	wantBytes(t, d, 0, 5, 0)
	wantWaits(t, d, 0, 4)
}

// P4.3: a nil disk.
func TestNil(t *testing.T) {
	var d *disk.Disk
	for range 2 {
		for _, at := range []int{math.MinInt, -1, 0, 1, 65537, math.MaxInt} {
			if e := d.Write(at, nil); e != api.ErrArg {
				t.Error(at, e)
			}
			if e := d.Write(at, []byte{1, 2}); e != api.ErrArg {
				t.Error(at, e)
			}
			d.Crash(at)
		}
		d.Sync()
		if d.Size() != 0 || len(d.Bytes()) != 0 || d.Waits() != 0 || d.Syncs() != 0 {
			t.Error(d.Size(), d.Bytes(), d.Waits(), d.Syncs())
		}
	}
}

// smallSteps are all steps that a disk of a size may be put through, and some that it may not.
func smallSteps(size int) []step {
	l := []step{{what: "sync"}}
	for keep := -1; keep <= 2*size+1; keep++ {
		l = append(l, step{what: "crash", at: keep})
	}
	for at := -1; at <= size+1; at++ {
		for n := 0; n <= size+1; n++ {
			l = append(l, step{what: "write", at: at, b: mixed(n, len(l))})
		}
	}
	return l
}

// P4.1, P4.2, P4.3: each run of few steps of small disks is what the words say.
func TestEveryRun(t *testing.T) {
	for _, sized := range []struct{ size, depth int }{{1, 4}, {2, 3}, {3, 3}} {
		steps := smallSteps(sized.size)
		runs := 1
		for range sized.depth {
			runs *= len(steps)
		}
		for run := range runs {
			x := newBoth(sized.size)
			left := run
			for range sized.depth {
				s := steps[left%len(steps)]
				left /= len(steps)
				x.do(t, s)
				if !x.alike() {
					t.Fatalf("size %d run %d, %v: %v %d %d, not %v", sized.size, run, s, x.d.Bytes(), x.d.Waits(), x.d.Syncs(), x.w)
				}
			}
		}
	}
}

// chance is a plain row of numbers, the same one each time.
type chance uint64

func (c *chance) below(n int) int {
	*c = *c*6364136223846793005 + 1442695040888963407
	return int(uint64(*c) >> 33 % uint64(n))
}

// P4.1, P4.2, P4.3: long runs of disks of all sizes are what the words say.
func TestLongRuns(t *testing.T) {
	c := chance(1)
	for _, size := range []int{1, 2, 7, 64, 300, 4096, 65535, most} {
		x := newBoth(size)
		for k := range 400 {
			longest := size + 2
			if c.below(3) > 0 {
				longest = min(longest, 9)
			}
			s := step{what: "write", at: c.below(size+3) - 1, b: mixed(c.below(longest), k)}
			if n := c.below(12); n == 0 {
				s = step{what: "sync"}
			} else if n == 1 {
				s = step{what: "crash", at: c.below(len(x.w.waits)+3) - 1}
			}
			x.do(t, s)
			if !x.alike() {
				t.Fatalf("size %d step %d, %s: not what the words say", size, k, s.what)
			}
		}
	}
}

// lively is a disk that was through writes, a sync and a crash, and on which 9 bytes wait, in three writes that meet.
func lively() *disk.Disk {
	d := disk.New(8)
	d.Write(0, []byte{11, 12, 13, 14, 15, 16, 17, 18})
	d.Sync()
	d.Write(2, []byte{21, 22})
	d.Crash(1)
	d.Write(5, []byte{31, 32, 33})
	d.Write(1, []byte{41, 42, 43, 44})
	d.Write(4, []byte{51, 52})
	return d
}

// P4.4: a crash that keeps all is a sync, one that keeps none leaves what lasted.
func TestCrashOfAllAndNone(t *testing.T) {
	lasting := []byte{11, 12, 21, 14, 15, 16, 17, 18}
	for _, keep := range []int{0, -1, -9, math.MinInt} {
		d := lively()
		d.Crash(keep)
		wantBytes(t, d, lasting...)
		wantWaits(t, d, 0, 1)
	}
	for _, keep := range []int{9, 10, 1000, math.MaxInt} {
		d, synced := lively(), lively()
		read := d.Bytes()
		d.Crash(keep)
		synced.Sync()
		wantBytes(t, d, synced.Bytes()...)
		wantBytes(t, d, read...)
		wantBytes(t, d, 11, 41, 42, 43, 51, 52, 32, 33)
		wantWaits(t, d, 0, 1)
		wantWaits(t, synced, 0, 2)
		d.Crash(0) // it lasts
		wantBytes(t, d, read...)
	}
}

// P4.4: synced bytes are the same behind every crash.
func TestSyncedBytesLast(t *testing.T) {
	for keep := -2; keep < 12; keep++ {
		d := lively()
		d.Sync()
		was := d.Bytes()
		d.Crash(keep) // nothing waits
		wantBytes(t, d, was...)
		d.Write(3, []byte{0, 0, 99})
		d.Write(4, []byte{98})
		d.Write(4, nil)
		d.Crash(keep) // what waited is at 3 to 5 alone
		now := d.Bytes()
		if !bytes.Equal(now[:3], was[:3]) || !bytes.Equal(now[6:], was[6:]) {
			t.Errorf("keep %d: %v, ahead %v", keep, now, was)
		}
		d.Crash(9)
		wantBytes(t, d, now...)
	}
	for keep := 0; keep <= 300; keep += 7 { // crash behind crash
		d := disk.New(most)
		d.Write(0, mixed(most, 3))
		d.Sync()
		was := d.Bytes()
		for k := range 5 {
			d.Write(40000-k, mixed(300, k))
			d.Crash(keep)
		}
		now := d.Bytes()
		if !bytes.Equal(now[:39996], was[:39996]) || !bytes.Equal(now[40000+keep:], was[40000+keep:]) || keep > 0 && bytes.Equal(now, was) {
			t.Errorf("keep %d", keep)
		}
	}
}

// A disk of the smallest size, and one of the greatest.
func TestEnds(t *testing.T) {
	small := disk.New(1)
	wantWrite(t, small, 0, []byte{5, 6}, api.ErrFull)
	wantWrite(t, small, 1, []byte{5}, api.ErrFull)
	wantWrite(t, small, 1, nil, api.OK)
	wantWrite(t, small, 0, []byte{5}, api.OK)
	wantWrite(t, small, 0, []byte{6}, api.OK)
	wantBytes(t, small, 6)
	small.Crash(1)
	wantBytes(t, small, 5)

	all := mixed(most, 1)
	great := disk.New(most)
	wantWrite(t, great, 0, append(all, 1), api.ErrFull)
	wantWrite(t, great, 1, all, api.ErrFull)
	wantWrite(t, great, most, []byte{1}, api.ErrFull)
	wantWrite(t, great, most+1, nil, api.ErrFull)
	wantWrite(t, great, most, nil, api.OK)
	wantWaits(t, great, 0, 0)
	wantWrite(t, great, 0, all, api.OK)
	wantWrite(t, great, most-1, []byte{200}, api.OK)
	wantWaits(t, great, most+1, 0)
	if b := great.Bytes(); !bytes.Equal(b[:most-1], all[:most-1]) || b[most-1] != 200 {
		t.Error("not what was written")
	}
	great.Crash(most)
	if !bytes.Equal(great.Bytes(), all) {
		t.Error("not what was kept")
	}
	great.Write(0, make([]byte, most))
	great.Crash(most - 1)
	if b := great.Bytes(); !bytes.Equal(b[:most-1], make([]byte, most-1)) || b[most-1] != all[most-1] {
		t.Error("not all but one")
	}
}

// Rule 4: what is handed in is neither changed nor kept, its spare room included.
func TestHandedIn(t *testing.T) {
	whole := []byte{1, 2, 3, 4, 5, 6}
	was := bytes.Clone(whole)
	d := disk.New(6)
	wantWrite(t, d, 1, whole[1:3:5], api.OK)
	wantWrite(t, d, 6, whole[:0], api.OK)
	wantWrite(t, d, 5, whole[:3], api.ErrFull)
	wantWrite(t, d, 4, whole[3:4], api.OK)
	clear(whole) // by its owner
	wantBytes(t, d, 0, 2, 3, 0, 4, 0)
	copy(whole, was)
	d.Crash(2)
	wantBytes(t, d, 0, 2, 3, 0, 0, 0)
	wantWrite(t, d, 0, whole, api.OK)
	d.Sync()
	clear(whole)
	wantBytes(t, d, was...)
	copy(whole, was)
	wantWrite(t, d, 0, []byte{9, 9}, api.OK)
	wantWrite(t, d, 4, []byte{9, 9}, api.OK)
	d.Bytes()
	d.Crash(3)
	d.Sync()
	if !bytes.Equal(whole, was) {
		t.Error("changed:", whole)
	}
}

// spoil writes over a list and its spare room.
func spoil(b []byte) {
	b = b[:cap(b)]
	for i := range b {
		b[i] = 99
	}
}

// Rule 4: the bytes that are answered are new memory, its spare room too; what is done to the disk later doesn't change them.
func TestHandedOut(t *testing.T) {
	d := lively()
	read := []byte{11, 41, 42, 43, 51, 52, 32, 33}
	first, second := d.Bytes(), d.Bytes()
	spoil(first)
	wantBytes(t, d, read...)
	if !bytes.Equal(second, read) {
		t.Error("two answers share:", second)
	}
	d.Crash(0)
	wantBytes(t, d, 11, 12, 21, 14, 15, 16, 17, 18)
	d.Sync()
	spoil(d.Bytes())
	wantBytes(t, d, 11, 12, 21, 14, 15, 16, 17, 18)
	third := d.Bytes() // nothing waits
	d.Write(0, []byte{1, 2, 3})
	d.Sync()
	if !bytes.Equal(third, []byte{11, 12, 21, 14, 15, 16, 17, 18}) || !bytes.Equal(second, read) {
		t.Error("an answer was changed later:", third, second)
	}
	wantBytes(t, d, 1, 2, 3, 14, 15, 16, 17, 18)
}

// Rule 6: disks don't hang on each other, nor an answer on what was asked ahead.
func TestApart(t *testing.T) {
	one, other := disk.New(2), disk.New(2)
	one.Write(0, []byte{1})
	one.Sync()
	one.Write(1, []byte{2})
	wantBytes(t, other, 0, 0)
	wantWaits(t, other, 0, 0)
	other.Write(1, []byte{3})
	other.Crash(0)
	for range 3 {
		wantBytes(t, one, 1, 2)
		wantWaits(t, one, 1, 1)
		wantBytes(t, other, 0, 0)
		wantWaits(t, other, 0, 0)
		if one.Size() != 2 || other.Size() != 2 {
			t.Error("sizes", one.Size(), other.Size())
		}
	}
}
