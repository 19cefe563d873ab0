package tape

import (
	"bytes"
	"math"
	"slices"
	"strings"
	"testing"

	"flitting/api"
)

func holdRead(t *testing.T, x *Tape, side int, want string, e api.Errno) {
	t.Helper()
	if got, ge := x.Read(side); ge != e || string(got) != want {
		t.Errorf("Read(%d) = %q, %d, want %q, %d", side, got, ge, want, e)
	}
}

// holdSides holds what both sides have that are not lost.
func holdSides(t *testing.T, x *Tape, first, second string) {
	t.Helper()
	holdRead(t, x, 0, first, api.OK)
	holdRead(t, x, 1, second, api.OK)
}

func holdAppend(t *testing.T, x *Tape, b string, want api.Errno) {
	t.Helper()
	if got := x.Append([]byte(b)); got != want {
		t.Errorf("Append(%d bytes) = %d, want %d", len(b), got, want)
	}
}

func holdReplace(t *testing.T, x *Tape, b string, want api.Errno) {
	t.Helper()
	if got := x.Replace([]byte(b)); got != want {
		t.Errorf("Replace(%d bytes) = %d, want %d", len(b), got, want)
	}
}

// otherSides are numbers that no side has.
func otherSides() []int {
	return []int{-1, 2, 3, 255, 256, 1 << 32, 1<<32 + 1, -1 << 32, math.MinInt, math.MaxInt}
}

// numbers are some around 0, and int's ends.
func numbers() []int {
	all := []int{math.MinInt, math.MinInt + 1, -1 << 32, math.MaxInt - 1, math.MaxInt, 1 << 32, 1<<32 + 1}
	for n := -9; n <= 9; n++ {
		all = append(all, n)
	}
	return all
}

func TestNew(t *testing.T) {
	for _, x := range []*Tape{New(), {}} {
		holdSides(t, x, "", "")
		for _, side := range otherSides() {
			holdRead(t, x, side, "", api.ErrArg)
		}
		x.Crash(1)
		holdSides(t, x, "", "")
		holdAppend(t, x, "a", api.OK)
		holdSides(t, x, "a", "a")
	}
	if New() == New() {
		t.Error("two tapes are one")
	}
}

func TestNil(t *testing.T) {
	var x *Tape
	for range 2 {
		holdAppend(t, x, "", api.ErrArg)
		holdAppend(t, x, "a", api.ErrArg)
		holdReplace(t, x, "", api.ErrArg)
		holdReplace(t, x, "a", api.ErrArg)
		for _, side := range append(otherSides(), 0, 1) {
			holdRead(t, x, side, "", api.ErrArg)
			x.Lose(side)
			x.Spoil(side, []byte("a"))
		}
		for _, n := range numbers() {
			x.Fuse(n)
			x.Crash(n)
		}
	}
}

func TestAppend(t *testing.T) {
	x := New()
	want := ""
	for _, b := range []string{"one", "", "two", "\x00", "\xff\xfe", "three"} {
		holdAppend(t, x, b, api.OK)
		want += b
		holdSides(t, x, want, want)
	}
	// Nothing of it is loose.
	x.Crash(0)
	holdSides(t, x, want, want)
	holdAppend(t, x, "more", api.OK)
	holdSides(t, x, want+"more", want+"more")
}

func TestAppendMany(t *testing.T) {
	x := New()
	var want []byte
	for at := range 3000 {
		b := bytes.Repeat([]byte{byte(at)}, at%17)
		holdAppend(t, x, string(b), api.OK)
		want = append(want, b...)
		if at%100 == 99 {
			holdSides(t, x, string(want), string(want))
		}
	}
}

// A tape has no bound of its own.
func TestLong(t *testing.T) {
	for _, size := range []int{api.MaxRecord - 1, api.MaxRecord, api.MaxRecord + 1, api.MaxTape - 1, api.MaxTape, api.MaxTape + 1, 1 << 20} {
		x := New()
		long := strings.Repeat("l", size)
		holdAppend(t, x, long, api.OK)
		holdSides(t, x, long, long)
		holdAppend(t, x, long, api.OK)
		holdSides(t, x, long+long, long+long)
		holdReplace(t, x, long+"r", api.OK)
		holdSides(t, x, long+"r", long+"r")
		x.Spoil(1, []byte(long+"spoilt"))
		holdSides(t, x, long+"r", long+"spoilt")
	}
}

func TestReplace(t *testing.T) {
	x := New()
	for _, b := range []string{"first", "a longer one", "short", "", "\x00\xff", "last"} {
		holdReplace(t, x, b, api.OK)
		holdSides(t, x, b, b)
		x.Crash(0)
		holdSides(t, x, b, b)
		holdAppend(t, x, "+", api.OK)
		holdAppend(t, x, "", api.OK)
		holdSides(t, x, b+"+", b+"+")
	}
}

// What comes behind a Replace on one side is not on the other one.
func TestSidesApart(t *testing.T) {
	for size := range 70 {
		b := strings.Repeat("r", size)
		x := New()
		holdReplace(t, x, b, api.OK)
		x.Fuse(1)
		holdAppend(t, x, "x", api.ErrDown)
		x.Crash(0)
		holdSides(t, x, b+"x", b)
		x.Fuse(0)
		holdAppend(t, x, "y", api.ErrDown)
		holdSides(t, x, b+"xy", b)
		x.Crash(1)
		holdSides(t, x, b+"xy", b)
		x.Lose(0)
		holdAppend(t, x, "zz", api.OK)
		holdRead(t, x, 1, b+"zz", api.OK)
	}
}

func TestReadOther(t *testing.T) {
	x := New()
	holdAppend(t, x, "a", api.OK)
	x.Lose(1)
	// Nothing is done by these, whatever is lost.
	for _, side := range otherSides() {
		holdRead(t, x, side, "", api.ErrArg)
		x.Lose(side)
		x.Spoil(side, []byte("no"))
		holdRead(t, x, 0, "a", api.OK)
		holdRead(t, x, 1, "", api.ErrLost)
	}
	x.Lose(0)
	for _, side := range otherSides() {
		holdRead(t, x, side, "", api.ErrArg)
	}
}

// The document's example.
func TestExample(t *testing.T) {
	x := New()
	x.Fuse(1)
	holdAppend(t, x, "it", api.ErrDown)
	x.Crash(0)
	holdSides(t, x, "it", "")
}

// Of a fuse of each length, which side's write is the one in which the power goes.
func TestFuseAppend(t *testing.T) {
	for writes := range 9 {
		x := New()
		holdAppend(t, x, "0", api.OK)
		x.Fuse(writes)
		had := "0"
		for n := 1; n <= writes/2; n++ {
			holdAppend(t, x, "abc", api.OK)
			had += "abc"
			holdSides(t, x, had, had)
		}
		holdAppend(t, x, "def", api.ErrDown)
		if writes%2 == 0 {
			holdSides(t, x, had+"def", had)
			x.Crash(2)
			holdSides(t, x, had+"de", had)
		} else {
			holdSides(t, x, had+"def", had+"def")
			x.Crash(2)
			holdSides(t, x, had+"def", had+"de")
		}
	}
}

func TestFuseReplace(t *testing.T) {
	for writes := range 9 {
		for keep := range 2 {
			x := New()
			holdAppend(t, x, "0", api.OK)
			x.Fuse(writes)
			had := "0"
			for n := 1; n <= writes/2; n++ {
				had = strings.Repeat("r", n)
				holdReplace(t, x, had, api.OK)
				holdSides(t, x, had, had)
			}
			holdReplace(t, x, "new", api.ErrDown)
			lasts := []string{had, "new"}[keep]
			if writes%2 == 0 {
				holdSides(t, x, "new", had)
				x.Crash(keep)
				holdSides(t, x, lasts, had)
			} else {
				holdSides(t, x, "new", "new")
				x.Crash(keep)
				holdSides(t, x, "new", lasts)
			}
		}
	}
}

// A fuse below 0 is one of 0.
func TestFuseNumbers(t *testing.T) {
	for _, writes := range numbers() {
		x := New()
		x.Fuse(writes)
		want := api.OK
		if writes < 2 {
			want = api.ErrDown
		}
		holdAppend(t, x, "a", want)
		if writes < 1 {
			holdSides(t, x, "a", "")
		} else {
			holdSides(t, x, "a", "a")
		}
	}
}

// A fuse that is set while the power is there counts anew.
func TestFuseAnew(t *testing.T) {
	x := New()
	x.Fuse(0)
	x.Fuse(3)
	holdAppend(t, x, "a", api.OK)
	x.Fuse(2)
	holdReplace(t, x, "b", api.OK)
	x.Fuse(4)
	x.Fuse(1)
	holdAppend(t, x, "c", api.ErrDown)
	holdSides(t, x, "bc", "bc")
	x.Crash(0)
	holdSides(t, x, "bc", "b")
}

// A write of no bytes is one, too.
func TestFuseNoBytes(t *testing.T) {
	x := New()
	holdAppend(t, x, "a", api.OK)
	x.Fuse(4)
	holdAppend(t, x, "", api.OK)
	holdReplace(t, x, "", api.OK)
	holdAppend(t, x, "", api.ErrDown)
	holdSides(t, x, "", "")
	x.Crash(0)
	holdReplace(t, x, "b", api.OK)
	x.Fuse(0)
	holdReplace(t, x, "", api.ErrDown)
	holdSides(t, x, "", "b")
	x.Crash(0)
	holdSides(t, x, "b", "b")
	x.Fuse(1)
	holdReplace(t, x, "", api.ErrDown)
	holdSides(t, x, "", "")
	x.Crash(1)
	holdSides(t, x, "", "")
}

// Reading, spoiling and losing are no writes, and ask for no power.
func TestNoWrites(t *testing.T) {
	x := New()
	holdAppend(t, x, "a", api.OK)
	x.Fuse(2)
	for range 5 {
		holdSides(t, x, "a", "a")
		x.Spoil(0, []byte("a"))
		x.Spoil(1, []byte("a"))
		x.Lose(2)
	}
	holdAppend(t, x, "b", api.OK)
	holdAppend(t, x, "c", api.ErrDown)
	holdSides(t, x, "abc", "ab")
	x.Spoil(1, []byte("spoilt"))
	holdSides(t, x, "abc", "spoilt")
	x.Lose(1)
	holdRead(t, x, 1, "", api.ErrLost)
	holdRead(t, x, 0, "abc", api.OK)
}

// While the power is gone nothing more is done, whatever is Fused, till a Crash.
func TestDown(t *testing.T) {
	for _, more := range append(numbers(), 100) {
		for first := range 2 {
			x := New()
			x.Fuse(first)
			holdAppend(t, x, "a", api.ErrDown)
			for range 3 {
				holdAppend(t, x, "b", api.ErrDown)
				holdAppend(t, x, "", api.ErrDown)
				holdReplace(t, x, "c", api.ErrDown)
				holdReplace(t, x, "", api.ErrDown)
				holdSides(t, x, "a", []string{"", "a"}[first])
				x.Fuse(more)
			}
			x.Crash(0)
			had := []string{"", "a"}[first]
			holdSides(t, x, had, "")
			// The power is there, and no fuse.
			for range 30 {
				holdAppend(t, x, "d", api.OK)
				had += "d"
			}
			holdSides(t, x, had, strings.Repeat("d", 30))
		}
	}
}

// A Crash takes a fuse away that did not burn, and with nothing loose changes nothing else.
func TestCrashFuse(t *testing.T) {
	for _, keep := range numbers() {
		for writes := range 4 {
			x := New()
			holdReplace(t, x, "a", api.OK)
			holdAppend(t, x, "bc", api.OK)
			x.Fuse(writes)
			for range 2 {
				x.Crash(keep)
				holdSides(t, x, "abc", "abc")
			}
			for range 4 {
				holdReplace(t, x, "abc", api.OK)
			}
		}
	}
}

// Of a loose Append the first bytes last, none below 0, and at most all.
func TestCrashAppend(t *testing.T) {
	const b = "bytes"
	for _, keep := range numbers() {
		count := 0
		for count < keep && count < len(b) {
			count++
		}
		for side := range 2 {
			x := New()
			holdAppend(t, x, "was ", api.OK)
			x.Fuse(side)
			holdAppend(t, x, b, api.ErrDown)
			want := []string{"was ", "was "}
			if side == 1 {
				want[0] += b
			}
			want[side] = "was " + b[:count]
			// A crash more keeps nothing more, nor less.
			for _, k := range []int{keep, 0, 5, math.MaxInt} {
				x.Crash(k)
				holdSides(t, x, want[0], want[1])
			}
			holdAppend(t, x, "!", api.OK)
			holdSides(t, x, want[0]+"!", want[1]+"!")
		}
	}
}

// A loose Replace lasts, if keep is odd, below 0, too.
func TestCrashReplace(t *testing.T) {
	odd := map[int]bool{math.MinInt: false, math.MinInt + 1: true, math.MaxInt - 1: false, math.MaxInt: true,
		-3: true, -2: false, -1: true, 0: false, 1: true, 2: false, 3: true, 4: false, 5: true, 6: false, 7: true,
		1 << 32: false, 1<<32 + 1: true, -1 << 32: false, -1<<32 - 1: true}
	for keep, lasts := range odd {
		for side := range 2 {
			for _, b := range []string{"", "n", "new bytes"} {
				x := New()
				holdAppend(t, x, "was", api.OK)
				x.Fuse(side)
				holdReplace(t, x, b, api.ErrDown)
				want := []string{"was", "was"}
				if side == 1 {
					want[0] = b
				}
				if lasts {
					want[side] = b
				}
				x.Crash(keep)
				holdSides(t, x, want[0], want[1])
				x.Crash(1)
				x.Crash(0)
				holdSides(t, x, want[0], want[1])
			}
		}
	}
}

// One side is enough; only the other one's writes are counted then.
func TestLoseOne(t *testing.T) {
	for side := range 2 {
		x := New()
		other := 1 - side
		holdAppend(t, x, "a", api.OK)
		x.Lose(side)
		x.Lose(side)
		holdRead(t, x, side, "", api.ErrLost)
		holdRead(t, x, other, "a", api.OK)
		holdAppend(t, x, "b", api.OK)
		holdRead(t, x, other, "ab", api.OK)
		x.Fuse(2)
		holdReplace(t, x, "c", api.OK)
		holdAppend(t, x, "d", api.OK)
		holdRead(t, x, other, "cd", api.OK)
		holdAppend(t, x, "ef", api.ErrDown)
		holdRead(t, x, side, "", api.ErrLost)
		holdRead(t, x, other, "cdef", api.OK)
		x.Crash(1)
		holdRead(t, x, side, "", api.ErrLost)
		holdRead(t, x, other, "cde", api.OK)
		x.Fuse(0)
		holdReplace(t, x, "g", api.ErrDown)
		holdRead(t, x, other, "g", api.OK)
		x.Crash(2)
		holdRead(t, x, other, "cde", api.OK)
		holdRead(t, x, side, "", api.ErrLost)
	}
}

func TestLoseBoth(t *testing.T) {
	for side := range 2 {
		x := New()
		holdAppend(t, x, "a", api.OK)
		x.Lose(side)
		x.Lose(1 - side)
		for _, then := range []func(){
			func() {}, func() { x.Fuse(0) }, func() { x.Fuse(5) }, func() { x.Crash(1) },
			func() { x.Spoil(0, []byte("s")) }, func() { x.Spoil(1, []byte("s")) }, func() { x.Lose(0) },
		} {
			then()
			holdAppend(t, x, "b", api.ErrLost)
			holdAppend(t, x, "", api.ErrLost)
			holdReplace(t, x, "c", api.ErrLost)
			holdReplace(t, x, "", api.ErrLost)
			holdRead(t, x, 0, "", api.ErrLost)
			holdRead(t, x, 1, "", api.ErrLost)
		}
	}
}

// Where the power is gone and both sides are lost, the power is told first.
func TestDownAndLost(t *testing.T) {
	x := New()
	x.Fuse(0)
	holdAppend(t, x, "a", api.ErrDown)
	x.Lose(0)
	holdRead(t, x, 0, "", api.ErrLost)
	holdRead(t, x, 1, "", api.OK)
	holdAppend(t, x, "b", api.ErrDown)
	x.Lose(1)
	holdAppend(t, x, "c", api.ErrDown)
	holdReplace(t, x, "c", api.ErrDown)
	holdRead(t, x, 0, "", api.ErrLost)
	holdRead(t, x, 1, "", api.ErrLost)
	x.Crash(1)
	holdAppend(t, x, "d", api.ErrLost)
	holdReplace(t, x, "d", api.ErrLost)
}

func TestSpoil(t *testing.T) {
	for side := range 2 {
		x := New()
		holdAppend(t, x, "same", api.OK)
		want := []string{"same", "same"}
		for _, b := range []string{"other bytes", "o", "", "\x00\xff"} {
			x.Spoil(side, []byte(b))
			want[side] = b
			holdSides(t, x, want[0], want[1])
			x.Crash(0)
			holdSides(t, x, want[0], want[1])
		}
		holdAppend(t, x, "+", api.OK)
		holdSides(t, x, want[0]+"+", want[1]+"+")
		holdReplace(t, x, "same", api.OK)
		holdSides(t, x, "same", "same")
		x.Lose(side)
		x.Spoil(side, []byte("to no use"))
		holdRead(t, x, side, "", api.ErrLost)
		holdRead(t, x, 1-side, "same", api.OK)
	}
}

// What is spoilt while it is loose is as it was spoilt, whatever a crash keeps; the other side stays loose.
func TestSpoilLoose(t *testing.T) {
	for _, keep := range numbers() {
		for side := range 2 {
			for loose := range 2 {
				x := New()
				holdAppend(t, x, "was", api.OK)
				x.Fuse(loose)
				if keep%3 == 0 {
					holdReplace(t, x, "new", api.ErrDown)
				} else {
					holdAppend(t, x, "new", api.ErrDown)
				}
				other, _ := x.Read(1 - side)
				x.Spoil(side, []byte("spoilt"))
				holdRead(t, x, side, "spoilt", api.OK)
				holdRead(t, x, 1-side, string(other), api.OK)
				holdAppend(t, x, "b", api.ErrDown)
				x.Crash(keep)
				holdRead(t, x, side, "spoilt", api.OK)
			}
		}
	}
}

// What is handed in is not changed, spare room included, nor kept.
func TestMemoryIn(t *testing.T) {
	calls := []func(x *Tape, b []byte){
		func(x *Tape, b []byte) { x.Append(b) },
		func(x *Tape, b []byte) { x.Replace(b) },
		func(x *Tape, b []byte) { x.Spoil(0, b); x.Spoil(1, b) },
		func(x *Tape, b []byte) { x.Fuse(0); x.Append(b) },
		func(x *Tape, b []byte) { x.Fuse(1); x.Append(b) },
		func(x *Tape, b []byte) { x.Fuse(0); x.Replace(b) },
		func(x *Tape, b []byte) { x.Fuse(1); x.Replace(b) },
		func(x *Tape, b []byte) { x.Append(b); x.Append(b) },
		func(x *Tape, b []byte) { x.Replace(b); x.Append(b) },
		func(x *Tape, b []byte) { x.Spoil(0, b); x.Append(b) },
	}
	for number, call := range calls {
		for size := range 40 {
			room := bytes.Repeat([]byte{7}, size+9)
			was := slices.Clone(room)
			x, clean := New(), New()
			call(x, room[:size])
			call(clean, was[:size:size])
			x.Read(0)
			if !bytes.Equal(room, was) {
				t.Errorf("call %d of %d bytes changed them, or the room behind them", number, size)
			}
			clear(room)
			for keep := range 3 {
				holdLike(t, x, clean)
				x.Crash(size + keep)
				clean.Crash(size + keep)
			}
			holdAppend(t, x, "more", api.OK)
			holdAppend(t, clean, "more", api.OK)
			holdLike(t, x, clean)
			if len(bytes.Trim(room, "\x00")) != 0 {
				t.Errorf("call %d of %d bytes: a later one wrote into them", number, size)
			}
		}
	}
}

// holdLike holds that x tells what other does.
func holdLike(t *testing.T, x, other *Tape) {
	t.Helper()
	for side := range 2 {
		want, e := other.Read(side)
		holdRead(t, x, side, string(want), e)
	}
}

// What is answered is new: whoever changes it, spare room included, changes nothing else.
func TestMemoryOut(t *testing.T) {
	spoil := func(x *Tape) {
		for side := range 2 {
			b, _ := x.Read(side)
			b = b[:cap(b)]
			for at := range b {
				b[at] = 'x'
			}
		}
	}
	for size := range 40 {
		x := New()
		long := strings.Repeat("l", size)
		holdReplace(t, x, long, api.OK)
		spoil(x)
		holdAppend(t, x, "a", api.OK)
		spoil(x)
		holdSides(t, x, long+"a", long+"a")
		first, _ := x.Read(0)
		x.Fuse(1)
		holdAppend(t, x, "bc", api.ErrDown)
		spoil(x)
		holdSides(t, x, long+"abc", long+"abc")
		x.Crash(1)
		spoil(x)
		holdSides(t, x, long+"abc", long+"ab")
		x.Fuse(0)
		holdReplace(t, x, "r"+long, api.ErrDown)
		spoil(x)
		holdSides(t, x, "r"+long, long+"ab")
		x.Crash(1)
		x.Spoil(1, []byte("s"))
		spoil(x)
		holdSides(t, x, "r"+long, "s")
		if string(first) != long+"a" {
			t.Errorf("an answer went with later calls: %q", first)
		}
	}
}
