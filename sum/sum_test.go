package sum

import (
	"bytes"
	"hash/crc32"
	"slices"
	"sync"
	"sync/atomic"
	"testing"
)

// divided is the CRC-32C of b by long division, bit by bit, with the highest power first: another way than the program's.
func divided(b []byte) uint32 {
	const modulus = 1<<32 | 0x1edc6f41
	// The bits of b, each byte's lowest first, and 32 noughts behind them; the first 32 are turned.
	var long []bool
	for _, next := range b {
		for bit := 0; bit < 8; bit++ {
			long = append(long, next>>bit&1 == 1)
		}
	}
	long = append(long, make([]bool, 32)...)
	for at := 0; at < 32; at++ {
		long[at] = !long[at]
	}
	for at := 0; at < len(long)-32; at++ {
		if !long[at] {
			continue
		}
		for power := 0; power <= 32; power++ {
			if uint64(modulus)>>(32-power)&1 == 1 {
				long[at+power] = !long[at+power]
			}
		}
	}
	// The remainder's highest power is the sum's lowest bit, and all are turned.
	var sum uint32
	for bit, one := range long[len(long)-32:] {
		if !one {
			sum |= 1 << bit
		}
	}
	return sum
}

// stirred is bytes that follow a rule, from a seed that goes on.
func stirred(seed *uint32, size int) []byte {
	data := make([]byte, size)
	for at := range data {
		*seed = *seed*1664525 + 1013904223
		data[at] = byte(*seed >> 24)
	}
	return data
}

// rising is so many bytes, from 0 on.
func rising(size int) []byte {
	data := make([]byte, size)
	for at := range data {
		data[at] = byte(at)
	}
	return data
}

// anew is the package as if no call had been.
func anew() {
	once = sync.Once{}
	whole = atomic.Pointer[[256]uint32]{}
}

func TestOfKnown(t *testing.T) {
	falling := rising(32)
	slices.Reverse(falling)
	for _, c := range []struct {
		b    []byte
		want uint32
	}{
		{[]byte("123456789"), 0xe3069283},
		{nil, 0},
		{[]byte{}, 0},
		{[]byte{0}, 0x527d5351},
		{[]byte{255}, 0xff000000},
		{[]byte{255, 255, 255, 255}, 0xffffffff},
		{[]byte("a"), 0xc1d04330},
		// RFC 3720, B.4.
		{make([]byte, 32), 0x8a9136aa},
		{bytes.Repeat([]byte{255}, 32), 0x62a8ab43},
		{rising(32), 0x46dd794e},
		{falling, 0x113fdb5c},
		{[]byte{
			1, 0xc0, 0, 0, 0, 0, 0, 0, 0, 0, 0, 0, 0, 0, 0, 0, 0x14, 0, 0, 0, 0, 0, 4, 0,
			0, 0, 0, 0x14, 0, 0, 0, 0x18, 0x28, 0, 0, 0, 0, 0, 0, 0, 2, 0, 0, 0, 0, 0, 0, 0,
		}, 0xd9963a56},
	} {
		if got := Of(c.b); got != c.want {
			t.Errorf("Of(%v) = %08x, want %08x", c.b, got, c.want)
		}
	}
}

func TestOfShort(t *testing.T) {
	for first := range 256 {
		one := []byte{byte(first)}
		if got, want := Of(one), divided(one); got != want {
			t.Errorf("Of(%v) = %08x, want %08x", one, got, want)
		}
		for second := range 256 {
			two := []byte{byte(first), byte(second)}
			if got, want := Of(two), divided(two); got != want {
				t.Errorf("Of(%v) = %08x, want %08x", two, got, want)
			}
		}
	}
}

func TestOfLengths(t *testing.T) {
	seed := uint32(1)
	for size := range 300 {
		for _, b := range [][]byte{stirred(&seed, size), make([]byte, size), bytes.Repeat([]byte{255}, size), rising(size)} {
			if got, want := Of(b), divided(b); got != want {
				t.Errorf("Of(%v) = %08x, want %08x", b, got, want)
			}
		}
	}
}

func TestOfLong(t *testing.T) {
	seed := uint32(2)
	library := crc32.MakeTable(crc32.Castagnoli)
	for _, size := range []int{1 << 13, 1 << 14, 1<<16 - 1, 1 << 16, 1<<16 + 1, 1 << 22} {
		b := stirred(&seed, size)
		if got, want := Of(b), crc32.Checksum(b, library); got != want {
			t.Errorf("Of %d bytes = %08x, want %08x", size, got, want)
		}
	}
}

// Noughts count, ahead of what stands there, and behind it: each sum of so many is another.
func TestOfNoughts(t *testing.T) {
	seen := map[uint32]string{}
	for count := range 200 {
		noughts := make([]byte, count)
		for name, b := range map[string][]byte{"alone": noughts, "ahead": append(slices.Clone(noughts), 1), "behind": append([]byte{2}, noughts...)} {
			sum := Of(b)
			if other, ok := seen[sum]; ok {
				t.Errorf("Of %d noughts %s is as Of noughts %s", count, name, other)
			}
			seen[sum] = name
		}
	}
}

// Whatever up to three bits of a shard are turned, the sum is another.
func TestOfTurned(t *testing.T) {
	shard := []byte("a shard.")
	was := Of(shard)
	other := func(bits ...int) {
		turned := slices.Clone(shard)
		for _, bit := range bits {
			turned[bit/8] ^= 1 << (bit % 8)
		}
		if Of(turned) == was {
			t.Errorf("Of, bits %v turned, is the same", bits)
		}
	}
	for first := range 64 {
		other(first)
		for second := range first {
			other(first, second)
			for third := range second {
				other(first, second, third)
			}
		}
	}
}

// The table is made by the first call, and stays as it is.
func TestTableOnce(t *testing.T) {
	anew()
	if whole.Load() != nil {
		t.Fatal("there is a table ahead of the first call")
	}
	Of(nil)
	table := whole.Load()
	if table == nil {
		t.Fatal("there is no table behind the first call")
	}
	was := *table
	seed := uint32(3)
	for size := range 100 {
		Of(stirred(&seed, size))
	}
	if whole.Load() != table || *table != was {
		t.Error("the table is another behind more calls")
	}
	for low, want := range crc32.MakeTable(crc32.Castagnoli) {
		if was[low] != want {
			t.Errorf("the remainder of %d is %08x, want %08x", low, was[low], want)
		}
	}
}

// No answer hangs on the table: whatever it holds, and if there is none.
func TestOfWhateverTable(t *testing.T) {
	defer anew()
	for name, table := range map[string]*[256]uint32{"none": nil, "noughts": {}, "one": {1, 2, 3}} {
		seed := uint32(6)
		for size := range 40 {
			b := stirred(&seed, size)
			Of(nil)
			whole.Store(table)
			if got, want := Of(b), divided(b); got != want {
				t.Errorf("Of(%v), table %s = %08x, want %08x", b, name, got, want)
			}
			if whole.Load() != table {
				t.Errorf("a call behind the first made another table, where there was %s", name)
			}
		}
	}
}

// Many may be the first.
func TestOfManyAtOnce(t *testing.T) {
	const many = 16
	text := []byte("123456789")
	for range 50 {
		anew()
		var got [many]uint32
		var all sync.WaitGroup
		for at := range got {
			all.Go(func() { got[at] = Of(text) })
		}
		all.Wait()
		for at := range got {
			if got[at] != 0xe3069283 {
				t.Fatalf("Of of many at once = %08x, want e3069283", got[at])
			}
		}
	}
}

// A sum hangs on the bytes alone: not on where they stand, nor on the room behind them, nor on the calls ahead.
func TestOfBytesAlone(t *testing.T) {
	seed := uint32(4)
	for size := range 40 {
		b := stirred(&seed, size)
		want := divided(b)
		for from := range 9 {
			around := stirred(&seed, 60)
			copy(around[from:], b)
			for _, given := range [][]byte{around[from : from+size], around[from : from+size : from+size]} {
				for range 2 {
					if got := Of(given); got != want {
						t.Errorf("Of(%v) = %08x, want %08x", given, got, want)
					}
				}
			}
		}
	}
}

// What is handed in is not changed, nor kept.
func TestOfMemory(t *testing.T) {
	seed := uint32(5)
	for size := range 40 {
		room := stirred(&seed, size+5)
		was := slices.Clone(room)
		before := Of(room[:size])
		if !bytes.Equal(room, was) {
			t.Errorf("Of of %d bytes changed them, or the room behind them", size)
		}
		for at := range room {
			room[at] ^= 255
		}
		if got, want := Of(room[:size]), divided(room[:size]); got != want {
			t.Errorf("Of(%v) = %08x, want %08x", room[:size], got, want)
		}
		if got := Of(was[:size]); got != before {
			t.Errorf("Of(%v) = %08x, and then %08x", was[:size], before, got)
		}
	}
}
