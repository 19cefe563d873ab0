package pool

import (
	"bytes"
	"encoding/binary"
	"hash/crc32"
	"math"
	"slices"
	"strings"
	"testing"

	"flitting/api"
)

// framed is the Frame of a shard, told by the library.
func framed(stripe uint32, pos byte, b []byte) []byte {
	s := binary.BigEndian.AppendUint32(nil, stripe)
	s = slices.Concat(s, []byte{pos, byte(len(b))}, b)
	return binary.BigEndian.AppendUint32(s, crc32.Checksum(s, crc32.MakeTable(crc32.Castagnoli)))
}

// filled is a pool of drives with so many slots.
func filled(t *testing.T, slots ...int) *Pool {
	t.Helper()
	p := New()
	for n, many := range slots {
		if got, e := p.Add(many); got != n || e != api.OK {
			t.Fatalf("Add(%d) = %d, %d, want %d, 0", many, got, e, n)
		}
	}
	return p
}

func holdErr(t *testing.T, what string, got, want api.Errno) {
	t.Helper()
	if got != want {
		t.Errorf("%s: %d, want %d", what, got, want)
	}
}

func holdCount(t *testing.T, what string, got, want int) {
	t.Helper()
	if got != want {
		t.Errorf("%s = %d, want %d", what, got, want)
	}
}

func holdStore(t *testing.T, p *Pool, n, stripe, pos int, b string, want api.Errno) {
	t.Helper()
	if got := p.Store(n, stripe, pos, []byte(b)); got != want {
		t.Errorf("Store(%d, %d, %d, %q) = %d, want %d", n, stripe, pos, b, got, want)
	}
}

func holdLoad(t *testing.T, p *Pool, n, stripe, pos int, want string, e api.Errno) {
	t.Helper()
	got, ge := p.Load(n, stripe, pos)
	if string(got) != want || ge != e || ge != api.OK && got != nil {
		t.Errorf("Load(%d, %d, %d) = %q, %d, want %q, %d", n, stripe, pos, got, ge, want, e)
	}
}

func holdErase(t *testing.T, p *Pool, n, stripe, pos int, want api.Errno) {
	t.Helper()
	if got := p.Erase(n, stripe, pos); got != want {
		t.Errorf("Erase(%d, %d, %d) = %d, want %d", n, stripe, pos, got, want)
	}
}

func holdFlush(t *testing.T, p *Pool, n int, want api.Errno) {
	t.Helper()
	if got := p.Flush(n); got != want {
		t.Errorf("Flush(%d) = %d, want %d", n, got, want)
	}
}

// holdHeld holds what is free, and whose shards are held.
func holdHeld(t *testing.T, p *Pool, n, free int, want ...[2]int) {
	t.Helper()
	if got := p.Held(n); !slices.Equal(got, want) {
		t.Errorf("Held(%d) = %v, want %v", n, got, want)
	}
	if got := p.Free(n); got != free {
		t.Errorf("Free(%d) = %d, want %d", n, got, free)
	}
}

func holdLasts(t *testing.T, p *Pool, n, stripe, pos int, want bool) {
	t.Helper()
	if got := p.Lasts(n, stripe, pos); got != want {
		t.Errorf("Lasts(%d, %d, %d) = %v, want %v", n, stripe, pos, got, want)
	}
}

// holdSlot holds the bytes of a slot.
func holdSlot(t *testing.T, p *Pool, n, at int, want []byte) {
	t.Helper()
	if got, e := p.Drive(n).Read(at); !bytes.Equal(got, want) || e != api.OK {
		t.Errorf("slot %d of drive %d has %v, %d, want %v", at, n, got, e, want)
	}
}

// put writes to a slot without the pool.
func put(t *testing.T, p *Pool, n, at int, b []byte) {
	t.Helper()
	holdErr(t, "a drive's Write", p.Drive(n).Write(at, b), api.OK)
}

// ends are numbers that are no drive's, of a pool of so many.
func ends(many int) []int {
	return []int{math.MinInt, -1 << 32, -many, -1, many, many + 1, api.MaxDrives, 1 << 32, 1<<32 + 1, math.MaxInt}
}

// holdNoDrive holds all calls of a drive that there is not.
func holdNoDrive(t *testing.T, p *Pool, n int) {
	t.Helper()
	for _, c := range [][2]int{{0, 0}, {1, 2}, {-1, 0}, {0, -1}, {api.MaxID + 1, 256}} {
		holdStore(t, p, n, c[0], c[1], "x", api.ErrArg)
		holdStore(t, p, n, c[0], c[1], strings.Repeat("x", 51), api.ErrArg)
		holdLoad(t, p, n, c[0], c[1], "", api.ErrArg)
		holdErase(t, p, n, c[0], c[1], api.ErrArg)
		holdLasts(t, p, n, c[0], c[1], false)
	}
	holdFlush(t, p, n, api.ErrArg)
	holdHeld(t, p, n, 0)
	if d := p.Drive(n); d != nil {
		t.Errorf("Drive(%d) = %v, want nil", n, d)
	}
}

// holdLost holds all calls of a drive that is lost.
func holdLost(t *testing.T, p *Pool, n int) {
	t.Helper()
	for _, c := range [][2]int{{0, 0}, {1, 2}, {api.MaxID, 255}} {
		holdStore(t, p, n, c[0], c[1], "x", api.ErrLost)
		holdLoad(t, p, n, c[0], c[1], "", api.ErrLost)
		holdErase(t, p, n, c[0], c[1], api.ErrLost)
		holdLasts(t, p, n, c[0], c[1], false)
	}
	holdFlush(t, p, n, api.ErrLost)
	holdHeld(t, p, n, 0)
	if d := p.Drive(n); d == nil || !d.Lost() {
		t.Errorf("Drive(%d) is not there any more, or not lost", n)
	}
}

func TestNil(t *testing.T) {
	var p *Pool
	for range 2 {
		for _, n := range append(ends(0), 0, 1) {
			holdNoDrive(t, p, n)
		}
		for _, slots := range []int{math.MinInt, 0, 1, math.MaxInt} {
			if n, e := p.Add(slots); n != 0 || e != api.ErrArg {
				t.Errorf("Add(%d) = %d, %d, want 0, %d", slots, n, e, api.ErrArg)
			}
		}
		holdCount(t, "Len()", p.Len(), 0)
		p.Fuse(0)
		p.Fuse(math.MinInt)
		p.Crash(0)
		p.Crash(math.MaxUint64)
	}
}

// New has no drives, and no fuse; what nobody made by New is the same.
func TestNew(t *testing.T) {
	for _, p := range []*Pool{New(), {}} {
		holdCount(t, "Len()", p.Len(), 0)
		for _, n := range append(ends(0), 0) {
			holdNoDrive(t, p, n)
		}
		p.Crash(1)
		if n, e := p.Add(1); n != 0 || e != api.OK || p.Len() != 1 {
			t.Errorf("Add(1) = %d, %d, and Len() = %d, want 0, 0, 1", n, e, p.Len())
		}
		for range 1000 {
			holdStore(t, p, 0, 1, 2, "x", api.OK)
			holdFlush(t, p, 0, api.OK)
		}
	}
}

func TestAdd(t *testing.T) {
	p := New()
	slots := []int{0, 1, 2, 127, 128, 129, math.MaxInt, -1, math.MinInt, 5, 6, 7}
	caps := []int{0, 1, 2, 127, 128, 128, 128, 0, 0, 5, 6, 7}
	for n, many := range slots {
		if got, e := p.Add(many); got != n || e != api.OK {
			t.Errorf("Add(%d) = %d, %d, want %d, 0", many, got, e, n)
		}
		holdCount(t, "Len()", p.Len(), n+1)
		for _, none := range ends(n + 1) {
			holdNoDrive(t, p, none)
		}
	}
	for range 3 {
		for _, many := range slots {
			if got, e := p.Add(many); got != 0 || e != api.ErrFull {
				t.Errorf("Add(%d) of a drive too many = %d, %d, want 0, %d", many, got, e, api.ErrFull)
			}
		}
		holdCount(t, "Len()", p.Len(), api.MaxDrives)
		for n, want := range caps {
			holdCount(t, "Cap()", p.Drive(n).Cap(), want)
			holdHeld(t, p, n, want)
		}
		holdNoDrive(t, p, api.MaxDrives)
	}
}

// A drive that is lost counts, and stays where it is; a fuse is nothing to Add.
func TestAddLost(t *testing.T) {
	p := New()
	p.Fuse(0)
	for want := range api.MaxDrives {
		n, e := p.Add(3)
		if n != want || e != api.OK {
			t.Errorf("Add(3) = %d, %d, want %d, 0", n, e, want)
		}
		p.Drive(n).Lose()
		holdLost(t, p, n)
	}
	if n, e := p.Add(3); n != 0 || e != api.ErrFull || p.Len() != api.MaxDrives {
		t.Errorf("Add(3) = %d, %d, and Len() = %d, want 0, %d, %d", n, e, p.Len(), api.ErrFull, api.MaxDrives)
	}
}

// Drive is the drive itself, each time the same.
func TestDrive(t *testing.T) {
	p := filled(t, 2, 2, 2)
	for n := range 3 {
		for other := range 3 {
			if same := p.Drive(n) == p.Drive(other); same != (n == other) {
				t.Errorf("Drive(%d) == Drive(%d): %v", n, other, same)
			}
		}
	}
	was := p.Drive(1)
	put(t, p, 1, 1, framed(5, 6, []byte("direct")))
	holdLoad(t, p, 1, 5, 6, "direct", api.OK)
	holdStore(t, p, 1, 7, 8, "pool", api.OK)
	holdSlot(t, p, 1, 0, framed(7, 8, []byte("pool")))
	holdCount(t, "Loose()", was.Loose(), 2)
	p.Crash(0)
	p.Drive(1).Lose()
	if p.Drive(1) != was {
		t.Error("Drive(1) is another one")
	}
}

func TestStoreLoad(t *testing.T) {
	p := filled(t, 3, 2)
	holdStore(t, p, 0, 16, 1, "one", api.OK)
	holdStore(t, p, 0, 16, 2, "two", api.OK)
	holdStore(t, p, 1, 16, 1, "other", api.OK)
	holdLoad(t, p, 0, 16, 1, "one", api.OK)
	holdLoad(t, p, 0, 16, 2, "two", api.OK)
	holdLoad(t, p, 1, 16, 1, "other", api.OK)
	for _, c := range [][3]int{{0, 1, 16}, {0, 2, 16}, {0, 16, 0}, {0, 17, 1}, {0, 0, 1}, {0, 16, 257}, {0, 16 + 1<<32, 1},
		{0, -16, 1}, {0, 16, -1}, {0, math.MinInt, 1}, {0, math.MaxInt, math.MaxInt}, {1, 16, 2}, {1, 0, 0}} {
		holdLoad(t, p, c[0], c[1], c[2], "", api.ErrNone)
		holdErase(t, p, c[0], c[1], c[2], api.ErrNone)
		holdLasts(t, p, c[0], c[1], c[2], false)
	}
	holdHeld(t, p, 0, 1, [2]int{16, 1}, [2]int{16, 2})
	holdHeld(t, p, 1, 1, [2]int{16, 1})
	holdSlot(t, p, 0, 0, framed(16, 1, []byte("one")))
	holdSlot(t, p, 0, 1, framed(16, 2, []byte("two")))
	holdSlot(t, p, 0, 2, nil)
	holdSlot(t, p, 1, 0, framed(16, 1, []byte("other")))
}

// A shard that is there is Stored in its slot, whatever else is free.
func TestStoreAgain(t *testing.T) {
	p := filled(t, 4)
	for pos, b := range []string{"a", "b", "c"} {
		holdStore(t, p, 0, 9, pos, b, api.OK)
	}
	holdErase(t, p, 0, 9, 0, api.OK)
	holdStore(t, p, 0, 9, 2, "again", api.OK)
	holdHeld(t, p, 0, 2, [2]int{9, 1}, [2]int{9, 2})
	holdSlot(t, p, 0, 0, nil)
	holdSlot(t, p, 0, 2, framed(9, 2, []byte("again")))
	holdLoad(t, p, 0, 9, 2, "again", api.OK)
	holdStore(t, p, 0, 9, 2, "", api.OK)
	holdLoad(t, p, 0, 9, 2, "", api.OK)
	holdHeld(t, p, 0, 2, [2]int{9, 1}, [2]int{9, 2})
	holdCount(t, "Loose()", p.Drive(0).Loose(), 6)
}

// What is free is filled from the least slot on.
func TestStoreLeastFree(t *testing.T) {
	p := filled(t, 4)
	for pos := range 4 {
		holdStore(t, p, 0, 9, pos, "x", api.OK)
	}
	holdHeld(t, p, 0, 0, [2]int{9, 0}, [2]int{9, 1}, [2]int{9, 2}, [2]int{9, 3})
	holdStore(t, p, 0, 10, 0, "x", api.ErrFull)
	holdErase(t, p, 0, 9, 3, api.OK)
	holdErase(t, p, 0, 9, 1, api.OK)
	holdHeld(t, p, 0, 2, [2]int{9, 0}, [2]int{9, 2})
	holdStore(t, p, 0, 10, 7, "x", api.OK)
	holdHeld(t, p, 0, 1, [2]int{9, 0}, [2]int{10, 7}, [2]int{9, 2})
	holdStore(t, p, 0, 9, 1, "y", api.OK)
	holdHeld(t, p, 0, 0, [2]int{9, 0}, [2]int{10, 7}, [2]int{9, 2}, [2]int{9, 1})
}

// A drive that is full refuses what it has not, and changes nothing; what it has is Stored.
func TestFull(t *testing.T) {
	for _, slots := range []int{0, 1, 2, 128} {
		p := filled(t, slots, 1)
		for pos := range slots {
			holdStore(t, p, 0, 9, pos, "x", api.OK)
		}
		for range 2 {
			holdStore(t, p, 0, 8, 0, "x", api.ErrFull)
			holdStore(t, p, 0, 9, slots, "x", api.ErrFull)
		}
		holdCount(t, "Loose()", p.Drive(0).Loose(), slots)
		for pos := range slots {
			holdStore(t, p, 0, 9, pos, "y", api.OK)
			holdLoad(t, p, 0, 9, pos, "y", api.OK)
		}
		holdLoad(t, p, 0, 8, 0, "", api.ErrNone)
		holdCount(t, "len(Held(0))", len(p.Held(0)), slots)
		holdCount(t, "Free(0)", p.Free(0), 0)
		holdHeld(t, p, 1, 1)
	}
}

// What may not be is ErrArg, ahead of all else; the ends of what may be are Stored.
func TestStoreArguments(t *testing.T) {
	p := filled(t, 8, 0, 1)
	p.Drive(2).Lose()
	long := strings.Repeat("s", 51)
	for n := range 3 {
		for _, c := range []struct {
			stripe, pos int
			b           string
		}{
			{-1, 0, ""}, {math.MinInt, 0, ""}, {api.MaxID + 1, 0, ""}, {math.MaxInt, 0, ""}, {1 << 31, 0, ""}, {1 << 32, 0, ""},
			{0, -1, ""}, {0, math.MinInt, ""}, {0, 256, ""}, {0, math.MaxInt, ""}, {0, 1 << 32, ""},
			{0, 0, long}, {1, 2, strings.Repeat("s", 1<<16)}, {1, 2, strings.Repeat("s", 1<<16+4)}, {-1, 256, long},
		} {
			holdStore(t, p, n, c.stripe, c.pos, c.b, api.ErrArg)
			p.Fuse(0)
			holdStore(t, p, n, c.stripe, c.pos, c.b, api.ErrArg)
			p.Crash(0)
		}
	}
	holdCount(t, "Loose()", p.Drive(0).Loose(), 0)
	holdHeld(t, p, 0, 8)
	for at, c := range []struct {
		stripe, pos int
		b           string
	}{
		{0, 0, ""}, {api.MaxID, 255, long[:50]}, {api.MaxID, 0, ""}, {0, 255, "s"}, {1, 254, long[:49]}, {api.MaxID - 1, 1, "\x00"},
	} {
		holdStore(t, p, 0, c.stripe, c.pos, c.b, api.OK)
		holdLoad(t, p, 0, c.stripe, c.pos, c.b, api.OK)
		holdSlot(t, p, 0, at, framed(uint32(c.stripe), byte(c.pos), []byte(c.b)))
		holdCount(t, "Free(0)", p.Free(0), 7-at)
	}
	holdHeld(t, p, 0, 2, [2]int{0, 0}, [2]int{api.MaxID, 255}, [2]int{api.MaxID, 0}, [2]int{0, 255}, [2]int{1, 254}, [2]int{api.MaxID - 1, 1})
}

// Of all errors that apply, the one is told that is named first.
func TestWhichError(t *testing.T) {
	p := filled(t, 1, 1, 0)
	holdStore(t, p, 0, 1, 1, "x", api.OK)
	holdStore(t, p, 1, 1, 1, "x", api.OK)
	p.Drive(1).Lose()
	p.Fuse(0)
	holdStore(t, p, 0, 1, 1, "y", api.ErrDown)
	holdStore(t, p, 0, 2, 2, "y", api.ErrFull)
	holdStore(t, p, 2, 1, 1, "y", api.ErrFull)
	holdErase(t, p, 0, 1, 1, api.ErrDown)
	holdErase(t, p, 0, 2, 2, api.ErrNone)
	holdErase(t, p, 2, 1, 1, api.ErrNone)
	holdFlush(t, p, 0, api.ErrDown)
	holdFlush(t, p, 2, api.ErrDown)
	holdLost(t, p, 1)
	for _, n := range ends(3) {
		holdNoDrive(t, p, n)
	}
	// What is only looked at needs no power.
	holdLoad(t, p, 0, 1, 1, "x", api.OK)
	holdLoad(t, p, 0, 2, 2, "", api.ErrNone)
	holdHeld(t, p, 0, 0, [2]int{1, 1})
	holdLasts(t, p, 0, 1, 1, false)
}

func TestErase(t *testing.T) {
	p := filled(t, 2)
	holdErase(t, p, 0, 0, 0, api.ErrNone)
	holdStore(t, p, 0, 3, 4, "x", api.OK)
	holdStore(t, p, 0, 3, 5, "y", api.OK)
	holdFlush(t, p, 0, api.OK)
	holdErase(t, p, 0, 3, 4, api.OK)
	holdSlot(t, p, 0, 0, nil)
	holdSlot(t, p, 0, 1, framed(3, 5, []byte("y")))
	holdLoad(t, p, 0, 3, 4, "", api.ErrNone)
	holdErase(t, p, 0, 3, 4, api.ErrNone)
	holdHeld(t, p, 0, 1, [2]int{3, 5})
	// An Erase is loose, too.
	holdCount(t, "Loose()", p.Drive(0).Loose(), 1)
	holdLasts(t, p, 0, 3, 4, true)
	p.Crash(0)
	holdLoad(t, p, 0, 3, 4, "x", api.OK)
	holdErase(t, p, 0, 3, 4, api.OK)
	p.Crash(1)
	holdLoad(t, p, 0, 3, 4, "", api.ErrNone)
	holdLasts(t, p, 0, 3, 4, false)
}

// A shard may be in more slots than one: each call goes to the least of them.
func TestTwice(t *testing.T) {
	p := filled(t, 4)
	put(t, p, 0, 1, framed(9, 2, []byte("first")))
	put(t, p, 0, 3, framed(9, 2, []byte("second")))
	holdHeld(t, p, 0, 2, [2]int{9, 2}, [2]int{9, 2})
	holdLoad(t, p, 0, 9, 2, "first", api.OK)
	holdStore(t, p, 0, 9, 2, "third", api.OK)
	holdSlot(t, p, 0, 0, nil)
	holdSlot(t, p, 0, 1, framed(9, 2, []byte("third")))
	holdSlot(t, p, 0, 3, framed(9, 2, []byte("second")))
	holdErase(t, p, 0, 9, 2, api.OK)
	holdHeld(t, p, 0, 3, [2]int{9, 2})
	holdLoad(t, p, 0, 9, 2, "second", api.OK)
	holdErase(t, p, 0, 9, 2, api.OK)
	holdHeld(t, p, 0, 4)
	holdErase(t, p, 0, 9, 2, api.ErrNone)
}

// So it may come to be by a crash: an Erase did not last, what was Stored behind it did.
func TestTwiceByCrash(t *testing.T) {
	p := filled(t, 2)
	holdStore(t, p, 0, 9, 2, "old", api.OK)
	holdFlush(t, p, 0, api.OK)
	holdErase(t, p, 0, 9, 2, api.OK)
	holdStore(t, p, 0, 8, 0, "other", api.OK)
	holdStore(t, p, 0, 9, 2, "new", api.OK)
	holdHeld(t, p, 0, 0, [2]int{8, 0}, [2]int{9, 2})
	p.Crash(4)
	holdHeld(t, p, 0, 0, [2]int{9, 2}, [2]int{9, 2})
	holdLoad(t, p, 0, 9, 2, "old", api.OK)
	holdErase(t, p, 0, 9, 2, api.OK)
	holdLoad(t, p, 0, 9, 2, "new", api.OK)
	holdLasts(t, p, 0, 9, 2, true)
}

// Bytes that are no Frame are no shard: their slot is free, and is filled as one that is empty.
func TestNoShards(t *testing.T) {
	good := framed(0, 0, []byte("shard"))
	wrong := slices.Clone(good)
	wrong[7]++
	junk := [][]byte{nil, {0}, make([]byte, 9), make([]byte, 10), make([]byte, 64), wrong, good[:len(good)-1], good[1:], append(slices.Clone(good), 0)}
	p := filled(t, len(junk)+1)
	for at, b := range junk {
		put(t, p, 0, at, b)
	}
	holdHeld(t, p, 0, len(junk)+1)
	holdLoad(t, p, 0, 0, 0, "", api.ErrNone)
	holdErase(t, p, 0, 0, 0, api.ErrNone)
	put(t, p, 0, len(junk), good)
	holdHeld(t, p, 0, len(junk), [2]int{0, 0})
	holdLoad(t, p, 0, 0, 0, "shard", api.OK)
	for at := range junk {
		holdStore(t, p, 0, 5, at, "new", api.OK)
		holdSlot(t, p, 0, at, framed(5, byte(at), []byte("new")))
		holdCount(t, "Free(0)", p.Free(0), len(junk)-1-at)
	}
	holdStore(t, p, 0, 6, 0, "new", api.ErrFull)
	holdSlot(t, p, 0, len(junk), good)
	holdFlush(t, p, 0, api.OK)
	holdLasts(t, p, 0, 0, 0, true)
	put(t, p, 0, len(junk), wrong)
	holdFlush(t, p, 0, api.OK)
	holdLasts(t, p, 0, 0, 0, false)
}

// Any Frame is a shard, also of a stripe that Store refuses.
func TestFramesOfAny(t *testing.T) {
	p := filled(t, 2)
	put(t, p, 0, 0, framed(1<<32-1, 255, []byte("far")))
	put(t, p, 0, 1, framed(api.MaxID+1, 0, nil))
	holdHeld(t, p, 0, 0, [2]int{1<<32 - 1, 255}, [2]int{api.MaxID + 1, 0})
	holdLoad(t, p, 0, 1<<32-1, 255, "far", api.OK)
	holdLoad(t, p, 0, -1, 255, "", api.ErrNone)
	holdStore(t, p, 0, 1, 1, "x", api.ErrFull)
	holdFlush(t, p, 0, api.OK)
	holdLasts(t, p, 0, 1<<32-1, 255, true)
	holdErase(t, p, 0, 1<<32-1, 255, api.OK)
	holdHeld(t, p, 0, 1, [2]int{api.MaxID + 1, 0})
}

// Lasts looks at what lasts of all slots, and at nothing that is loose.
func TestLasts(t *testing.T) {
	p := filled(t, 3, 3)
	holdLasts(t, p, 0, 0, 0, false)
	for pos := range 3 {
		holdStore(t, p, 0, 7, pos, "x", api.OK)
		holdLasts(t, p, 0, 7, pos, false)
	}
	holdFlush(t, p, 1, api.OK)
	holdLasts(t, p, 0, 7, 0, false)
	holdFlush(t, p, 0, api.OK)
	for pos := range 3 {
		holdLasts(t, p, 0, 7, pos, true)
		holdLasts(t, p, 1, 7, pos, false)
	}
	holdLasts(t, p, 0, 7, 3, false)
	holdLasts(t, p, 0, 8, 0, false)
	holdErase(t, p, 0, 7, 2, api.OK)
	holdStore(t, p, 0, 8, 0, "y", api.OK)
	holdLasts(t, p, 0, 7, 2, true)
	holdLasts(t, p, 0, 8, 0, false)
	holdFlush(t, p, 0, api.OK)
	holdLasts(t, p, 0, 7, 2, false)
	holdLasts(t, p, 0, 8, 0, true)
	// With other bytes it is that shard, too.
	holdStore(t, p, 0, 8, 0, "z", api.OK)
	holdLasts(t, p, 0, 8, 0, true)
	p.Drive(0).Lose()
	holdLost(t, p, 0)
	holdLasts(t, p, 0, 7, 0, false)
}

// Flush is of one drive.
func TestFlush(t *testing.T) {
	p := filled(t, 1, 1, 1)
	for n := range 3 {
		holdStore(t, p, n, 1, n, "x", api.OK)
	}
	holdFlush(t, p, 1, api.OK)
	for n := range 3 {
		holdLasts(t, p, n, 1, n, n == 1)
	}
	p.Crash(0)
	for n := range 3 {
		want := api.ErrNone
		if n == 1 {
			want = api.OK
		}
		_, e := p.Load(n, 1, n)
		holdErr(t, "Load", e, want)
	}
}

// acts are what takes power, once each; all can be done again and again.
func acts(p *Pool) map[string]func() api.Errno {
	return map[string]func() api.Errno{
		"Store":  func() api.Errno { return p.Store(0, 1, 1, []byte("a")) },
		"other":  func() api.Errno { return p.Store(1, 1, 1, []byte("a")) },
		"Flush":  func() api.Errno { return p.Flush(1) },
		"nought": func() api.Errno { return p.Flush(2) },
		"Erase": func() api.Errno {
			put := p.Drive(2).Write(0, framed(4, 4, nil))
			return max(put, p.Erase(2, 4, 4))
		},
	}
}

// So many are done, of each kind, on whatever drives; none behind them, till a Crash.
func TestFuse(t *testing.T) {
	for _, writes := range []int{0, 1, 2, 5, 40, -1, -7, math.MinInt} {
		for name := range acts(nil) {
			p := filled(t, 2, 2, 2)
			act := acts(p)[name]
			p.Fuse(writes)
			for range max(writes, 0) {
				holdErr(t, name+" ahead of the fuse", act(), api.OK)
			}
			for range 3 {
				for other, behind := range acts(p) {
					holdErr(t, other+" behind the fuse", behind(), api.ErrDown)
				}
			}
			p.Crash(0)
			for range 50 {
				for other, behind := range acts(p) {
					holdErr(t, other+" behind a Crash", behind(), api.OK)
				}
			}
		}
	}
}

// What answers ErrDown is not done.
func TestFuseNotDone(t *testing.T) {
	p := filled(t, 2)
	holdStore(t, p, 0, 1, 1, "was", api.OK)
	p.Fuse(0)
	holdStore(t, p, 0, 1, 1, "new", api.ErrDown)
	holdStore(t, p, 0, 2, 2, "new", api.ErrDown)
	holdErase(t, p, 0, 1, 1, api.ErrDown)
	holdFlush(t, p, 0, api.ErrDown)
	holdHeld(t, p, 0, 1, [2]int{1, 1})
	holdLoad(t, p, 0, 1, 1, "was", api.OK)
	holdLasts(t, p, 0, 1, 1, false)
	holdSlot(t, p, 0, 1, nil)
	holdCount(t, "Loose()", p.Drive(0).Loose(), 1)
	p.Crash(2)
	holdHeld(t, p, 0, 2)
}

// What is refused for another reason, or only looks, takes no power.
func TestFuseRefused(t *testing.T) {
	p := filled(t, 1, 0, 1)
	p.Drive(2).Lose()
	holdStore(t, p, 0, 1, 1, "x", api.OK)
	p.Fuse(2)
	for range 5 {
		holdStore(t, p, 0, -1, 0, "", api.ErrArg)
		holdStore(t, p, 0, 2, 2, "", api.ErrFull)
		holdStore(t, p, 1, 2, 2, "", api.ErrFull)
		holdErase(t, p, 0, 2, 2, api.ErrNone)
		holdLost(t, p, 2)
		holdNoDrive(t, p, 3)
		holdNoDrive(t, p, -1)
		holdLoad(t, p, 0, 1, 1, "x", api.OK)
		holdLoad(t, p, 0, 2, 2, "", api.ErrNone)
		holdLasts(t, p, 0, 1, 1, false)
		holdHeld(t, p, 0, 0, [2]int{1, 1})
	}
	holdStore(t, p, 0, 1, 1, "y", api.OK)
	holdFlush(t, p, 0, api.OK)
	holdErase(t, p, 0, 1, 1, api.ErrDown)
	holdLoad(t, p, 0, 1, 1, "y", api.OK)
}

// While the power is there, a later Fuse tells anew how many are done yet, also behind one of which all are done.
func TestFuseAgain(t *testing.T) {
	for _, first := range []int{0, 1, 2, 5, -1, math.MaxInt} {
		for _, later := range []int{0, 1, 2, 5, -1} {
			for name := range acts(nil) {
				p := filled(t, 2, 2, 2)
				act := acts(p)[name]
				p.Fuse(first)
				for range min(max(first, 0), 3) {
					holdErr(t, name+" ahead of the later Fuse", act(), api.OK)
				}
				p.Fuse(later)
				for range max(later, 0) {
					holdErr(t, name+" behind the later Fuse", act(), api.OK)
				}
				holdErr(t, name+" behind all", act(), api.ErrDown)
			}
		}
	}
}

// Behind the first ErrDown, of whatever act, each other one answers it, too, whatever is Fused; behind a Crash none does, nor has it a fuse.
func TestFuseBehindErrDown(t *testing.T) {
	for _, first := range []int{0, 1, 3, -1} {
		for _, later := range []int{0, 1, 2, 40, math.MaxInt, -1, math.MinInt} {
			for name := range acts(nil) {
				p := filled(t, 2, 2, 2)
				act := acts(p)[name]
				p.Fuse(first)
				for range max(first, 0) {
					holdErr(t, name+" ahead of the fuse", act(), api.OK)
				}
				holdErr(t, name+" behind the fuse", act(), api.ErrDown)
				for range 2 {
					p.Fuse(later)
					for other, behind := range acts(p) {
						holdErr(t, other+" behind "+name, behind(), api.ErrDown)
					}
				}
				p.Crash(0)
				for range 50 {
					holdErr(t, name+" behind a Crash", act(), api.OK)
				}
				p.Fuse(1)
				holdErr(t, name+" of a new fuse", act(), api.OK)
				holdErr(t, name+" behind a new fuse", act(), api.ErrDown)
			}
		}
	}
}

// What answers ErrDown behind a later Fuse is not done, and what else a call may answer is as ever.
func TestFuseBehindErrDownNotDone(t *testing.T) {
	p := filled(t, 2, 0, 1)
	holdStore(t, p, 0, 1, 1, "was", api.OK)
	holdFlush(t, p, 0, api.OK)
	holdStore(t, p, 0, 1, 1, "now", api.OK)
	p.Drive(2).Lose()
	p.Fuse(0)
	holdStore(t, p, 0, 2, 2, "new", api.ErrDown)
	p.Fuse(9)
	holdStore(t, p, 0, 1, 1, "new", api.ErrDown)
	holdStore(t, p, 0, 2, 2, "new", api.ErrDown)
	holdErase(t, p, 0, 1, 1, api.ErrDown)
	holdFlush(t, p, 0, api.ErrDown)
	holdStore(t, p, 0, -1, 0, "", api.ErrArg)
	holdStore(t, p, 1, 2, 2, "new", api.ErrFull)
	holdErase(t, p, 0, 2, 2, api.ErrNone)
	holdLost(t, p, 2)
	holdNoDrive(t, p, 3)
	holdHeld(t, p, 0, 1, [2]int{1, 1})
	holdLoad(t, p, 0, 1, 1, "now", api.OK)
	holdLasts(t, p, 0, 1, 1, true)
	holdCount(t, "Loose()", p.Drive(0).Loose(), 1)
	if n, e := p.Add(1); n != 3 || e != api.OK {
		t.Errorf("Add(1) = %d, %d, want 3, 0", n, e)
	}
	holdStore(t, p, 3, 1, 1, "new", api.ErrDown)
	p.Crash(0)
	holdLoad(t, p, 0, 1, 1, "was", api.OK)
	holdStore(t, p, 3, 1, 1, "new", api.OK)
}

// What is refused for another reason, with nothing left of the fuse, is no ErrDown yet: a Fuse behind it tells anew.
func TestFuseBehindOtherErrors(t *testing.T) {
	p := filled(t, 1, 1)
	holdStore(t, p, 0, 1, 1, "x", api.OK)
	p.Drive(1).Lose()
	p.Fuse(0)
	holdStore(t, p, 0, 1, 256, "", api.ErrArg)
	holdStore(t, p, 0, 2, 2, "", api.ErrFull)
	holdErase(t, p, 0, 2, 2, api.ErrNone)
	holdLoad(t, p, 0, 2, 2, "", api.ErrNone)
	holdLost(t, p, 1)
	holdNoDrive(t, p, 2)
	p.Fuse(1)
	holdFlush(t, p, 0, api.OK)
	holdFlush(t, p, 0, api.ErrDown)
}

// A Crash takes the fuse away, also one by which nothing was refused.
func TestCrashTakesFuse(t *testing.T) {
	for _, writes := range []int{0, 1, 2, -1} {
		p := filled(t, 1)
		p.Fuse(writes)
		p.Crash(0)
		for range 10 {
			holdFlush(t, p, 0, api.OK)
		}
		p.Fuse(2)
		holdFlush(t, p, 0, api.OK)
		p.Crash(0)
		for range 10 {
			holdFlush(t, p, 0, api.OK)
		}
	}
}

// A fuse is its pool's alone, and none of its drives'.
func TestFuseAlone(t *testing.T) {
	p, other := filled(t, 1), filled(t, 1)
	p.Fuse(0)
	holdFlush(t, p, 0, api.ErrDown)
	holdFlush(t, other, 0, api.OK)
	put(t, p, 0, 0, framed(1, 1, []byte("direct")))
	holdLoad(t, p, 0, 1, 1, "direct", api.OK)
	holdFlush(t, p, 0, api.ErrDown)
}

// Each of 64 bits, and each drive: which of its loose Writes lasts.
func TestCrashBits(t *testing.T) {
	for bit := range 64 {
		p := filled(t, slices.Repeat([]int{64}, api.MaxDrives)...)
		for n := range api.MaxDrives {
			for at := range 64 {
				holdStore(t, p, n, at, n, "x", api.OK)
			}
		}
		p.Crash(1 << bit)
		for n := range api.MaxDrives {
			// To the right by seven bits a drive: bit 7 of the second drive's is its bit 0.
			at := ((bit-7*n)%64 + 64) % 64
			holdHeld(t, p, n, 63, [2]int{at, n})
			holdSlot(t, p, n, at, framed(uint32(at), byte(n), []byte("x")))
			holdLasts(t, p, n, at, n, true)
			holdCount(t, "Loose()", p.Drive(n).Loose(), 0)
		}
	}
}

func TestCrash(t *testing.T) {
	for _, keep := range []uint64{0, 1, 1 << 7, 1<<7 | 1<<14 | 2, 0xfedcba9876543210, math.MaxUint64, 1 << 63} {
		p := filled(t, slices.Repeat([]int{70}, api.MaxDrives)...)
		for n := range api.MaxDrives {
			for at := range 70 {
				holdStore(t, p, n, at, 0, "was", api.OK)
			}
			holdFlush(t, p, n, api.OK)
			for at := range 70 {
				holdStore(t, p, n, at, 0, "new", api.OK)
			}
		}
		p.Drive(3).Lose()
		p.Fuse(0)
		p.Crash(keep)
		holdLost(t, p, 3)
		turned := keep
		for n := range api.MaxDrives {
			for at := range 70 {
				if n == 3 {
					continue
				}
				want := "was"
				if at < 64 && turned&(1<<at) != 0 {
					want = "new"
				}
				holdLoad(t, p, n, at, 0, want, api.OK)
			}
			for range 7 {
				turned = turned>>1 | turned<<63
			}
		}
		// What lasts, lasts behind a further crash, too.
		held := p.Held(11)
		p.Crash(0)
		if !slices.Equal(p.Held(11), held) || len(held) != 70 {
			t.Errorf("Held(11) = %v, was %v", p.Held(11), held)
		}
	}
}

// What is handed in is not changed, spare room included, nor kept.
func TestMemoryIn(t *testing.T) {
	for size := range 51 {
		room := bytes.Repeat([]byte{7}, size+60)
		was := slices.Clone(room)
		p := filled(t, 2)
		holdErr(t, "Store", p.Store(0, 1, 2, room[:size]), api.OK)
		if !bytes.Equal(room, was) {
			t.Errorf("Store of %d bytes changed them, or the room behind them", size)
		}
		for at := range room {
			room[at] = 9
		}
		holdLoad(t, p, 0, 1, 2, string(was[:size]), api.OK)
		holdSlot(t, p, 0, 0, framed(1, 2, was[:size]))
	}
}

// What is answered is new: whoever changes it, spare room included, changes nothing else.
func TestMemoryOut(t *testing.T) {
	p := filled(t, 3)
	holdStore(t, p, 0, 1, 2, "one", api.OK)
	holdStore(t, p, 0, 1, 3, "two", api.OK)
	first, _ := p.Load(0, 1, 2)
	second, _ := p.Load(0, 1, 2)
	clear(first[:cap(first)])
	if string(second) != "one" {
		t.Errorf("two answers of Load share memory: %q", second)
	}
	held, again := p.Held(0), p.Held(0)
	clear(held[:cap(held)])
	if !slices.Equal(again, [][2]int{{1, 2}, {1, 3}}) {
		t.Errorf("two answers of Held share memory: %v", again)
	}
	holdStore(t, p, 0, 1, 2, "new", api.OK)
	if string(second) != "one" {
		t.Errorf("an answer went with a later Store: %q", second)
	}
	holdLoad(t, p, 0, 1, 2, "new", api.OK)
	holdHeld(t, p, 0, 1, [2]int{1, 2}, [2]int{1, 3})
}
