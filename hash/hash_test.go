package hash

import (
	"bytes"
	"crypto/sha256"
	"encoding/binary"
	"encoding/hex"
	"math"
	"math/big"
	"slices"
	"strings"
	"sync"
	"testing"
)

// follow is bytes that follow a rule, from a seed that goes on.
func follow(seed *uint32, size int) []byte {
	data := make([]byte, size)
	for at := range data {
		*seed = *seed*1664525 + 1013904223
		data[at] = byte(*seed >> 24)
	}
	return data
}

// holdSum holds Sum of b against the library's.
func holdSum(t *testing.T, b []byte) {
	t.Helper()
	if got, want := Sum(b), sha256.Sum256(b); !bytes.Equal(got, want[:]) {
		t.Errorf("Sum of %d bytes (%.80x) = %x, want %x", len(b), b, got, want)
	}
}

func TestSumKnown(t *testing.T) {
	for _, c := range []struct{ text, want string }{
		{"", "e3b0c44298fc1c149afbf4c8996fb92427ae41e4649b934ca495991b7852b855"},
		// FIPS 180-2, B.1 to B.3, and the two beside them.
		{"abc", "ba7816bf8f01cfea414140de5dae2223b00361a396177a9cb410ff61f20015ad"},
		{"abcdbcdecdefdefgefghfghighijhijkijkljklmklmnlmnomnopnopq", "248d6a61d20638b8e5c026930c3e6039a33ce45964ff2167f6ecedd419db06c1"},
		{"abcdefghbcdefghicdefghijdefghijkefghijklfghijklmghijklmnhijklmnoijklmnopjklmnopqklmnopqrlmnopqrsmnopqrstnopqrstu", "cf5b16a778af8380036ce59e7b0492370b249b11e8f07a51afac45037afee9d1"},
		{strings.Repeat("a", 1000000), "cdc76e5c9914fb9281a1c7e284d73e67f1809a48a497200e046d39ccc7112cd0"},
		{"\xbd", "68325720aabd7c82f30f554b313d0570c95accbb7dc4b5aae11204c08ffe732b"},
	} {
		if got := hex.EncodeToString(Sum([]byte(c.text))); got != c.want {
			t.Errorf("Sum of %d bytes (%.40q) = %s, want %s", len(c.text), c.text, got, c.want)
		}
	}
	if !bytes.Equal(Sum(nil), Sum([]byte{})) {
		t.Error("Sum(nil) is not Sum of no bytes")
	}
}

// The ends of blocks, and of the room for the length, are among these lengths.
func TestSumLengths(t *testing.T) {
	seed := uint32(1)
	for size := range 600 {
		holdSum(t, follow(&seed, size))
		holdSum(t, make([]byte, size))
		holdSum(t, bytes.Repeat([]byte{0x80}, size))
		holdSum(t, bytes.Repeat([]byte{255}, size))
	}
}

func TestSumShort(t *testing.T) {
	for first := range 256 {
		holdSum(t, []byte{byte(first)})
		for second := range 256 {
			holdSum(t, []byte{byte(first), byte(second)})
		}
	}
}

func TestSumLong(t *testing.T) {
	seed := uint32(2)
	for _, size := range []int{1<<13 - 1, 1 << 13, 1<<13 + 1, 1<<16 - 9, 1 << 16, 1<<16 + 55, 1 << 21, 1<<21 + 56} {
		holdSum(t, follow(&seed, size))
	}
}

// The length is told in bits, of which a text may have more than 32 bits hold. (The text itself would take the test long.)
func TestEndingLength(t *testing.T) {
	seed := uint32(6)
	for _, size := range []int{0, 1, 31, 32, 55, 56, 63, 64, 1<<13 + 5, 1<<21 - 1, 1 << 21, 1<<29 - 1, 1 << 29, 1<<29 + 1, 1<<31 - 1} {
		rest := follow(&seed, size%64)
		end := ending(rest, size)
		want := append(slices.Clone(rest), 0x80)
		want = append(want, make([]byte, len(end)-8-len(want))...)
		want = binary.BigEndian.AppendUint64(want, 8*uint64(size))
		blocks := 1
		if len(rest) > 55 {
			blocks = 2
		}
		if len(end) != 64*blocks || !bytes.Equal(end, want) {
			t.Errorf("the end of %d bytes is %x, want %x, in blocks of 64 bytes", size, end, want)
		}
	}
}

// Whatever bit of a text is turned, about half of its sum's bits are others, so that no two are the same.
func TestSumTurned(t *testing.T) {
	seen := map[string]int{}
	for size := range 130 {
		seed := uint32(3)
		text := follow(&seed, size)
		for bit := range 8 * size {
			text[bit/8] ^= 1 << (bit % 8)
			sum := string(Sum(text))
			text[bit/8] ^= 1 << (bit % 8)
			if other, ok := seen[sum]; ok {
				t.Errorf("Sum, bit %d of %d bytes turned, was there already, of %d bytes", bit, size, other)
			}
			seen[sum] = size
		}
	}
}

// All calls are of what they are given, however many go at once.
func TestManyAtOnce(t *testing.T) {
	const many = 16
	var all sync.WaitGroup
	for at := range many {
		all.Go(func() {
			seed := uint32(at)
			for size := range 200 {
				holdSum(t, follow(&seed, size))
				holdWeight(t, at, size)
			}
		})
	}
	all.Wait()
}

// A sum hangs on the bytes alone: not on where they stand, nor on the room behind them, nor on the calls ahead.
func TestSumBytesAlone(t *testing.T) {
	seed := uint32(4)
	for size := range 150 {
		b := follow(&seed, size)
		want := sha256.Sum256(b)
		for from := range 9 {
			around := follow(&seed, 170)
			copy(around[from:], b)
			for _, given := range [][]byte{around[from : from+size], around[from : from+size : from+size]} {
				for range 2 {
					if got := Sum(given); !bytes.Equal(got, want[:]) {
						t.Errorf("Sum(%x) = %x, want %x", given, got, want)
					}
				}
			}
		}
	}
}

// What is handed in is not changed, nor kept; what is answered is new, and 32 bytes.
func TestSumMemory(t *testing.T) {
	seed := uint32(5)
	for size := range 150 {
		room := follow(&seed, size+80)
		was := slices.Clone(room)
		first := Sum(room[:size])
		if !bytes.Equal(room, was) {
			t.Errorf("Sum of %d bytes changed them, or the room behind them", size)
		}
		want := slices.Clone(first)
		for at := range room {
			room[at] ^= 255
		}
		if !bytes.Equal(first, want) {
			t.Errorf("the Sum of %d bytes goes with them", size)
		}
		second := Sum(was[:size])
		for at := range first[:cap(first)] {
			first[:cap(first)][at] ^= 255
		}
		if len(first) != 32 || !bytes.Equal(second, want) || !bytes.Equal(Sum(was[:size]), want) {
			t.Errorf("the Sum of %d bytes goes with another one, or has not 32 bytes", size)
		}
	}
}

// holdWeight holds Weight of both against the library's sum of them.
func holdWeight(t *testing.T, stripe, drive int) {
	t.Helper()
	var both [16]byte
	binary.BigEndian.PutUint64(both[:8], uint64(stripe))
	binary.BigEndian.PutUint64(both[8:], uint64(drive))
	sum := sha256.Sum256(both[:])
	if got, want := Weight(stripe, drive), binary.BigEndian.Uint64(sum[:]); got != want {
		t.Errorf("Weight(%d, %d) = %016x, want %016x", stripe, drive, got, want)
	}
}

func TestWeightKnown(t *testing.T) {
	for _, c := range []struct {
		stripe, drive int
		want          uint64
	}{
		{0, 0, 0x374708fff7719dd5},
		{0, 1, 0x7c3ccd10bb7ec37b},
		{1, 0, 0x783825822a6f9e62},
		{1, 2, 0x8c7654ecfd7b0b62},
		{16, 11, 0x14fa1154dba7ed42},
		{1 << 30, 11, 0x7d446d645405bd2e},
		{-1, 0, 0x60c69a3e87bf5c4f},
		{0, -1, 0x787979ee6a78d79a},
		{-1, -1, 0x5ac6a5945f165009},
		{math.MaxInt64, math.MinInt64, 0x9b0d0728a93086d4},
		{math.MinInt64, math.MaxInt64, 0x5f51e546e3138a3e},
	} {
		for range 2 {
			if got := Weight(c.stripe, c.drive); got != c.want {
				t.Errorf("Weight(%d, %d) = %016x, want %016x", c.stripe, c.drive, got, c.want)
			}
		}
	}
}

// Each byte of both numbers counts, at both ends of what it may be, and no pair weighs as another.
func TestWeightEnds(t *testing.T) {
	ends := []int{0, math.MinInt64, math.MaxInt64, -1}
	for shift := range 63 {
		ends = append(ends, 1<<shift, -1<<shift-1)
	}
	seen := map[uint64][2]int{}
	for _, stripe := range ends {
		for _, drive := range ends {
			holdWeight(t, stripe, drive)
			weight := Weight(stripe, drive)
			if other, ok := seen[weight]; ok {
				t.Errorf("Weight(%d, %d) is Weight of %v", stripe, drive, other)
			}
			seen[weight] = [2]int{stripe, drive}
		}
	}
}

func TestWeightUsual(t *testing.T) {
	for stripe := range 3000 {
		for drive := range 12 {
			holdWeight(t, stripe, drive)
		}
	}
}

// Each round's word is of the cube root of its prime.
func TestRounds(t *testing.T) {
	next := int64(2)
	for at, got := range rounds {
		for !big.NewInt(next).ProbablyPrime(0) {
			next++
		}
		// The greatest number of which the third power is at most next times 2^96: its last 32 bits.
		prime, root := new(big.Int).Lsh(big.NewInt(next), 96), new(big.Int)
		for bit := 36; bit >= 0; bit-- {
			more := new(big.Int).SetBit(root, bit, 1)
			if new(big.Int).Exp(more, big.NewInt(3), nil).Cmp(prime) <= 0 {
				root = more
			}
		}
		if want := uint32(root.Uint64()); got != want {
			t.Errorf("round %d, of %d, has %08x, want %08x", at, next, got, want)
		}
		next++
	}
}
