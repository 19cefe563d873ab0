package slot

import (
	"bytes"
	"encoding/binary"
	"encoding/hex"
	"hash/crc32"
	"math"
	"slices"
	"testing"
)

// seal is front, and behind it the library's sum of it.
func seal(front []byte) []byte {
	return binary.BigEndian.AppendUint32(slices.Clone(front), crc32.Checksum(front, crc32.MakeTable(crc32.Castagnoli)))
}

// front is what stands ahead of the sum: stripe, pos, how many, and b as it is.
func front(stripe uint32, pos, count byte, b []byte) []byte {
	return slices.Concat(binary.BigEndian.AppendUint32(nil, stripe), []byte{pos, count}, b)
}

// framed is the Frame of numbers that fit and at most 50 bytes, told by the library.
func framed(stripe uint32, pos byte, b []byte) []byte {
	return seal(front(stripe, pos, byte(len(b)), b))
}

// stirred is bytes that follow a rule, from a seed that goes on.
func stirred(seed *uint32, size int) []byte {
	data := make([]byte, size)
	for at := range data {
		*seed = *seed*1664525 + 1013904223
		data[at] = byte(*seed >> 24)
	}
	return data
}

// stripes are numbers of stripes, each of whose four bytes is sometimes alone.
func stripes() []uint32 {
	list := []uint32{0, 1, 16, 17, 0x01020304, 1<<30 - 1, 1 << 30, 1<<30 + 1, 1<<31 - 1, 1 << 31, 1<<32 - 1}
	for bit := range 32 {
		list = append(list, 1<<bit)
	}
	return list
}

// contents are bytes of that many: noughts, ones, and some.
func contents(seed *uint32, size int) [][]byte {
	return [][]byte{make([]byte, size), bytes.Repeat([]byte{255}, size), stirred(seed, size)}
}

func holdFrame(t *testing.T, stripe, pos int, b, want []byte) {
	t.Helper()
	if got := Frame(stripe, pos, b); !bytes.Equal(got, want) {
		t.Errorf("Frame(%d, %d, %v) = %v, want %v", stripe, pos, b, got, want)
	}
}

func holdOpen(t *testing.T, s []byte, stripe, pos int, b []byte) {
	t.Helper()
	gotStripe, gotPos, gotB, ok := Open(s)
	if !ok || gotStripe != stripe || gotPos != pos || !bytes.Equal(gotB, b) {
		t.Errorf("Open(%v) = %d, %d, %v, %v, want %d, %d, %v, true", s, gotStripe, gotPos, gotB, ok, stripe, pos, b)
	}
}

// holdNone holds that s is no Frame, and that beside the false there is nothing.
func holdNone(t *testing.T, what string, s []byte) {
	t.Helper()
	if stripe, pos, b, ok := Open(s); ok || stripe != 0 || pos != 0 || len(b) != 0 {
		t.Errorf("Open of %s, %v = %d, %d, %v, %v, want 0, 0, nothing, false", what, s, stripe, pos, b, ok)
	}
}

func TestKnown(t *testing.T) {
	for _, c := range []struct {
		stripe, pos int
		b, want     string
	}{
		{0, 0, "", "000000000000572a7c8a"},
		{1, 2, "abc", "00000001020361626310fac916"},
		{1 << 30, 255, "a shard.", "40000000ff08612073686172642e65941251"},
		{0x01020304, 5, "\x00", "01020304050100139dc972"},
		{1<<32 - 1, 255, "", "ffffffffff005c1cdb7c"},
	} {
		want, err := hex.DecodeString(c.want)
		if err != nil {
			t.Fatal(err)
		}
		holdFrame(t, c.stripe, c.pos, []byte(c.b), want)
		holdOpen(t, want, c.stripe, c.pos, []byte(c.b))
	}
}

// Frames of all lengths and places, both ways.
func TestFrameOpen(t *testing.T) {
	seed := uint32(1)
	for _, stripe := range stripes() {
		for size := range 51 {
			for _, b := range contents(&seed, size) {
				pos := byte(seed >> 16)
				want := framed(stripe, pos, b)
				holdFrame(t, int(stripe), int(pos), b, want)
				holdOpen(t, want, int(stripe), int(pos), b)
			}
		}
	}
	for pos := range 256 {
		b := stirred(&seed, pos%51)
		want := framed(77, byte(pos), b)
		holdFrame(t, 77, pos, b, want)
		holdOpen(t, want, 77, pos, b)
	}
}

// Nil and empty are the same.
func TestEmpty(t *testing.T) {
	want := framed(3, 4, nil)
	holdFrame(t, 3, 4, nil, want)
	holdFrame(t, 3, 4, []byte{}, want)
	holdOpen(t, want, 3, 4, nil)
}

// What is behind 50 bytes is cut, and does not count; what is there can be opened, and fits into a slot.
func TestCut(t *testing.T) {
	seed := uint32(2)
	for size := 45; size <= 600; size++ {
		for _, b := range contents(&seed, size) {
			cut := b[:min(size, 50)]
			want := framed(9, 1, cut)
			holdFrame(t, 9, 1, b, want)
			holdOpen(t, want, 9, 1, cut)
			if got := len(Frame(9, 1, b)); got > 64 {
				t.Errorf("Frame of %d bytes has %d, more than a slot", size, got)
			}
		}
	}
	long := stirred(&seed, 1<<22)
	holdFrame(t, 9, 1, long, framed(9, 1, long[:50]))
}

// Of numbers that their bytes do not hold, the lowest bytes stand; what they tell is not below 0.
func TestNumbersBeyond(t *testing.T) {
	b := []byte("a shard.")
	for _, n := range []int{
		-1, -2, -255, -256, -257, -1 << 31, -1<<31 - 1, -1 << 32, math.MinInt, math.MinInt + 1,
		256, 257, 511, 512, 1<<32 - 1, 1 << 32, 1<<32 + 1, 1<<40 + 300, math.MaxInt, math.MaxInt - 1,
	} {
		four, one := uint32(uint64(n)&0xffffffff), byte(uint64(n)&0xff)
		holdFrame(t, n, 7, b, framed(four, 7, b))
		holdFrame(t, 7, n, b, framed(7, one, b))
		holdFrame(t, n, n, b, framed(four, one, b))
		holdOpen(t, Frame(n, n, b), int(four), int(one), b)
	}
}

// Nothing, and what is shorter than any Frame.
func TestOpenShort(t *testing.T) {
	holdNone(t, "nil", nil)
	holdNone(t, "nothing", []byte{})
	seed := uint32(3)
	for size := range 10 {
		for _, b := range contents(&seed, size) {
			holdNone(t, "few bytes", b)
		}
	}
	// Of fewer bytes, too, the sum may be right.
	for size := range 6 {
		holdNone(t, "a sealed front that is cut", seal(make([]byte, size)))
	}
}

// A Frame that is cut, ahead or behind, or has more, is none.
func TestOpenLengths(t *testing.T) {
	seed := uint32(4)
	for size := range 51 {
		for _, b := range contents(&seed, size) {
			s := framed(uint32(size)<<20|5, 6, b)
			for at := range s {
				holdNone(t, "a Frame without its end", s[:at])
				if at > 0 {
					holdNone(t, "a Frame without its front", s[at:])
				}
				holdNone(t, "a Frame without one byte", slices.Delete(slices.Clone(s), at, at+1))
				holdNone(t, "a Frame with one more", slices.Insert(slices.Clone(s), at, s[at]))
			}
			for _, more := range [][]byte{{0}, {255}, make([]byte, 4), make([]byte, 64-len(s)), s} {
				if len(more) > 0 {
					holdNone(t, "a Frame and more", slices.Concat(s, more))
					holdNone(t, "more and a Frame", slices.Concat(more, s))
				}
			}
		}
	}
}

// A Frame of which any one or two bits, or any byte, are others is none: its sum is wrong.
func TestOpenTurned(t *testing.T) {
	seed := uint32(5)
	for _, size := range []int{0, 1, 8, 49, 50} {
		for _, b := range contents(&seed, size) {
			s := framed(1<<30-3, 5, b)
			turn := func(bit int) { s[bit/8] ^= 1 << (bit % 8) }
			for first := range 8 * len(s) {
				turn(first)
				holdNone(t, "a Frame with a bit turned", s)
				for second := range first {
					turn(second)
					holdNone(t, "a Frame with two bits turned", s)
					turn(second)
				}
				turn(first)
			}
			for at, was := range s {
				for other := range 256 {
					if s[at] = byte(other); s[at] != was {
						holdNone(t, "a Frame with another byte", s)
					}
				}
				s[at] = was
			}
			holdOpen(t, s, 1<<30-3, 5, b)
		}
	}
}

// How many bytes there are has to be told rightly, however right the sum is.
func TestOpenCount(t *testing.T) {
	seed := uint32(6)
	for size := range 70 {
		b := stirred(&seed, size)
		for count := range 256 {
			s := seal(front(8, 3, byte(count), b))
			if count == size && size <= 50 {
				holdOpen(t, s, 8, 3, b)
			} else {
				holdNone(t, "a wrong count", s)
			}
		}
	}
}

// More than 50 bytes are in no Frame, however right count and sum are.
func TestOpenTooMany(t *testing.T) {
	seed := uint32(7)
	for size := 51; size <= 600; size++ {
		b := stirred(&seed, size)
		holdNone(t, "too many bytes", framed(8, 3, b))
		holdNone(t, "too many bytes, counted to 50", seal(front(8, 3, 50, b)))
		holdNone(t, "too many bytes, counted to 50, by the sum of the first", slices.Concat(framed(8, 3, b[:50]), b[50:]))
	}
}

// The sum is CRC-32C of all that stands ahead of it, whole, the highest byte first.
func TestOpenSums(t *testing.T) {
	seed := uint32(8)
	castagnoli := crc32.MakeTable(crc32.Castagnoli)
	for size := range 51 {
		b := stirred(&seed, size)
		ahead := front(0x01020304, 5, byte(size), b)
		right := crc32.Checksum(ahead, castagnoli)
		for what, wrong := range map[string]uint32{
			"none":                      0,
			"all ones":                  math.MaxUint32,
			"one more":                  right + 1,
			"not turned at the end":     ^right,
			"of another polynomial":     crc32.ChecksumIEEE(ahead),
			"of the shard alone":        crc32.Checksum(b, castagnoli),
			"without the stripe":        crc32.Checksum(ahead[4:], castagnoli),
			"without the stripe's byte": crc32.Checksum(ahead[1:], castagnoli),
			"without the shard":         crc32.Checksum(ahead[:5], castagnoli),
			"of all and four noughts":   crc32.Checksum(append(slices.Clone(ahead), 0, 0, 0, 0), castagnoli),
		} {
			if wrong != right {
				holdNone(t, "a sum "+what, binary.BigEndian.AppendUint32(slices.Clone(ahead), wrong))
			}
		}
		holdNone(t, "a sum with the lowest byte first", binary.LittleEndian.AppendUint32(slices.Clone(ahead), right))
		holdOpen(t, binary.BigEndian.AppendUint32(slices.Clone(ahead), right), 0x01020304, 5, b)
	}
}

// Whatever bytes stand there: just those that are a Frame of something are opened.
func TestOpenAnyBytes(t *testing.T) {
	seed := uint32(9)
	for range 300 {
		for size := range 80 {
			s := stirred(&seed, size)
			if size >= 10 && seed>>30&1 == 1 {
				s[5] = byte(size - 10)
			}
			if size >= 10 && seed>>31 == 1 {
				s = seal(s[:size-4])
			}
			if size >= 10 && size <= 60 && bytes.Equal(s, seal(s[:size-4])) && int(s[5]) == size-10 {
				holdOpen(t, s, int(binary.BigEndian.Uint32(s)), int(s[4]), s[6:size-4])
			} else {
				holdNone(t, "any bytes", s)
			}
		}
	}
}

// Unlike stripes, places and bytes have unlike Frames.
func TestFramesUnlike(t *testing.T) {
	type shard struct {
		stripe, pos int
		b           string
	}
	seen := map[string]shard{}
	for stripe := range 300 {
		for pos := range 7 {
			for size := range 4 {
				for _, b := range []string{"\x00\x00\x00", "\x01\x00\x02"} {
					s := shard{stripe, pos, b[:size]}
					frame := string(Frame(s.stripe, s.pos, []byte(s.b)))
					if other, ok := seen[frame]; ok && other != s {
						t.Errorf("Frame of %v is that of %v", s, other)
					}
					seen[frame] = s
				}
			}
		}
	}
}

// What is handed in is not changed, spare room included, nor kept, nor handed out.
func TestMemoryFrame(t *testing.T) {
	seed := uint32(10)
	for size := range 70 {
		room := stirred(&seed, size+30)
		was := slices.Clone(room)
		want := framed(5, 6, was[:min(size, 50)])
		first, second := Frame(5, 6, room[:size]), Frame(5, 6, room[:size])
		if !bytes.Equal(room, was) {
			t.Errorf("Frame of %d bytes changed them, or the room behind them", size)
		}
		clear(room)
		if !bytes.Equal(first, want) || !bytes.Equal(second, want) {
			t.Errorf("Frame of %d bytes shares them, or their room", size)
		}
		clear(first[:cap(first)])
		if !bytes.Equal(second, want) {
			t.Errorf("two Frames of %d bytes share memory", size)
		}
		if !bytes.Equal(room, make([]byte, len(room))) {
			t.Errorf("a Frame of %d bytes shares their room", size)
		}
		holdFrame(t, 5, 6, was[:size], want)
	}
}

func TestMemoryOpen(t *testing.T) {
	seed := uint32(11)
	for size := range 51 {
		b := stirred(&seed, size)
		room := append(framed(5, 6, b), stirred(&seed, 30)...)
		was := slices.Clone(room)
		s := room[:size+10]
		_, _, first, _ := Open(s)
		_, _, second, _ := Open(s)
		if !bytes.Equal(room, was) {
			t.Errorf("Open of %d bytes changed them, or the room behind them", size)
		}
		clear(first[:cap(first)])
		if !bytes.Equal(room, was) {
			t.Errorf("what Open answers, of %d bytes, shares its argument's memory", size)
		}
		if !bytes.Equal(second, b) {
			t.Errorf("two answers of Open, of %d bytes, share memory", size)
		}
		clear(room)
		if !bytes.Equal(second, b) {
			t.Errorf("what Open answers, of %d bytes, goes with its argument", size)
		}
		holdOpen(t, was[:size+10], 5, 6, b)
		was[7]++
		holdNone(t, "bytes that are wrong", was[:size+10])
	}
}

// What a refused Open was given is not changed either.
func TestMemoryRefused(t *testing.T) {
	seed := uint32(12)
	for size := range 80 {
		room := stirred(&seed, size+30)
		was := slices.Clone(room)
		holdNone(t, "any bytes", room[:size])
		if !bytes.Equal(room, was) {
			t.Errorf("Open of %d wrong bytes changed them, or the room behind them", size)
		}
	}
}
