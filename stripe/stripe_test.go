package stripe

import (
	"bytes"
	"math"
	"math/big"
	"slices"
	"strings"
	"testing"

	"flitting/api"
	"flitting/rs"
)

// stirred is bytes that follow a rule, none of them 0, from a seed that goes on.
func stirred(seed *uint32, size int) []byte {
	data := make([]byte, size)
	for at := range data {
		*seed = *seed*1664525 + 1013904223
		data[at] = byte(*seed>>24)%255 + 1
	}
	return data
}

// counted is what Count should answer of k and size that are above 0: told with numbers that have no ends.
func counted(k, size int) int {
	wide := new(big.Int).Mul(big.NewInt(int64(k)), big.NewInt(8))
	many, more := new(big.Int).QuoRem(big.NewInt(int64(size)), wide, new(big.Int))
	if more.Sign() > 0 {
		many.Add(many, big.NewInt(1))
	}
	return int(many.Int64())
}

// cut is what Split should answer, told byte by byte: a part more whenever one begins.
func cut(k int, data []byte) [][]byte {
	var parts [][]byte
	for at, b := range data {
		if at%(k*8) == 0 {
			parts = append(parts, bytes.Repeat([]byte{0}, k*8))
		}
		parts[at/(k*8)][at%(k*8)] = b
	}
	return parts
}

// joined is what Join should answer, told by all bytes that there are.
func joined(parts [][]byte, size int) ([]byte, bool) {
	all := bytes.Join(parts, nil)
	if size < 0 || len(all) < size {
		return nil, false
	}
	return all[:size], true
}

func holdCount(t *testing.T, k, size, want int) {
	t.Helper()
	if got := Count(k, size); got != want {
		t.Errorf("Count(%d, %d) = %d, want %d", k, size, got, want)
	}
}

func holdSplit(t *testing.T, k int, data []byte, want [][]byte) {
	t.Helper()
	got := Split(k, data)
	if !slices.EqualFunc(got, want, bytes.Equal) {
		t.Errorf("Split(%d, %d bytes) = %d parts that are not the %d to be: %.200q", k, len(data), len(got), len(want), got)
	}
	if many := Count(k, len(data)); many != len(got) {
		t.Errorf("Split(%d, %d bytes) has %d parts, Count %d", k, len(data), len(got), many)
	}
}

func holdJoin(t *testing.T, parts [][]byte, size int, want []byte, ok bool) {
	t.Helper()
	got, gok := Join(parts, size)
	if !bytes.Equal(got, want) || gok != ok || !gok && got != nil {
		t.Errorf("Join(%.200q, %d) = %.200q, %v, want %.200q, %v", parts, size, got, gok, want, ok)
	}
}

// below are numbers below 1, and above are those above 2^20.
var (
	below = []int{0, -1, -2, -7, -8, -9, -1 << 20, -1<<20 - 1, -1 << 31, -1 << 32, -1 << 60, -1 << 61, -1 << 62, math.MinInt + 1, math.MinInt}
	above = []int{1<<20 + 1, 1 << 21, 1 << 28, 1<<31 - 1, 1 << 31, 1 << 32, 1<<32 + 1, 1 << 59, 1<<60 - 1, 1 << 60, 1<<60 + 1, 1 << 61, 1<<61 + 1, 1 << 62, math.MaxInt - 1, math.MaxInt}
)

func TestCountKnown(t *testing.T) {
	for _, c := range [][3]int{
		{1, 1, 1}, {1, 7, 1}, {1, 8, 1}, {1, 9, 2}, {1, 16, 2}, {1, 17, 3}, {1, 96, 12},
		{2, 1, 1}, {2, 15, 1}, {2, 16, 1}, {2, 17, 2}, {2, 32, 2}, {2, 33, 3}, {2, 96, 6},
		{3, 24, 1}, {3, 25, 2}, {3, 96, 4}, {4, 32, 1}, {4, 33, 2}, {4, 64, 2}, {4, 65, 3}, {4, 96, 3},
		{5, 40, 1}, {5, 41, 2}, {12, 96, 1}, {12, 97, 2}, {1 << 20, 1, 1}, {1 << 20, 1 << 23, 1}, {1 << 20, 1<<23 + 1, 2},
		{1, math.MaxInt, 1 << 60}, {2, math.MaxInt, 1 << 59}, {1 << 20, math.MaxInt, 1 << 40},
	} {
		holdCount(t, c[0], c[1], c[2])
	}
}

// One part more whenever all that were there are full.
func TestCountSmall(t *testing.T) {
	for k := 1; k <= 40; k++ {
		want, room := 0, 0
		for size := 0; size <= 1000; size++ {
			if size > room {
				want, room = want+1, room+k*8
			}
			holdCount(t, k, size, want)
		}
	}
}

// Sizes around full parts, few, many, and as many as an int has room for.
func TestCountEnds(t *testing.T) {
	for _, k := range []int{1, 2, 3, 4, 5, 6, 7, 8, 31, 32, 33, 1000, 1<<16 + 1, 1<<20 - 1, 1 << 20} {
		sizes := []int{1<<31 - 1, 1 << 31, 1<<31 + 1, 1<<32 - 1, 1 << 32, 1<<32 + 1, 1 << 62, math.MaxInt - 8, math.MaxInt - 7, math.MaxInt - 1, math.MaxInt}
		most := math.MaxInt / (k * 8)
		for _, many := range []int{1, 2, 3, 1000, most / 2, most - 1, most} {
			sizes = append(sizes, many*k*8-1, many*k*8, many*k*8+1)
		}
		for _, size := range sizes {
			holdCount(t, k, size, counted(k, size))
		}
	}
}

func TestCountNone(t *testing.T) {
	sizes := append([]int{1, 7, 8, 9, 96, 1 << 31, math.MaxInt - 7, math.MaxInt}, below...)
	for _, k := range below {
		for _, size := range sizes {
			holdCount(t, k, size, 0)
		}
	}
	for k := 1; k <= 40; k++ {
		for _, size := range below {
			holdCount(t, k, size, 0)
		}
	}
	for _, size := range below {
		holdCount(t, 1<<20-1, size, 0)
		holdCount(t, 1<<20, size, 0)
	}
}

// A k of more than 2^20 may not be: there are no parts, and no room is made for any.
func TestTooGreat(t *testing.T) {
	for _, k := range above {
		for _, size := range append([]int{1, 8, 96, 1 << 31, math.MaxInt}, below...) {
			holdCount(t, k, size, 0)
		}
		for _, size := range []int{0, 1, 8, 96} {
			holdSplit(t, k, make([]byte, size), nil)
		}
	}
}

func TestSplitKnown(t *testing.T) {
	ones := strings.Repeat("1", 40)
	for _, c := range []struct {
		k    int
		data string
		want []string
	}{
		{1, "", nil}, {4, "", nil}, {1 << 20, "", nil},
		{1, "a", []string{"a\x00\x00\x00\x00\x00\x00\x00"}},
		{1, "abcdefg", []string{"abcdefg\x00"}},
		{1, "abcdefgh", []string{"abcdefgh"}},
		{1, "abcdefghi", []string{"abcdefgh", "i\x00\x00\x00\x00\x00\x00\x00"}},
		{2, "abcdefghi", []string{"abcdefghi\x00\x00\x00\x00\x00\x00\x00"}},
		{2, "sixteen bytes do", []string{"sixteen bytes do"}},
		{2, "more than sixteen", []string{"more than sixtee", "n" + strings.Repeat("\x00", 15)}},
		{3, ones[:24], []string{ones[:24]}},
		{3, ones[:25], []string{ones[:24], "1" + strings.Repeat("\x00", 23)}},
		{4, ones, []string{ones[:32], ones[:8] + strings.Repeat("\x00", 24)}},
		{5, ones, []string{ones}},
		{6, ones, []string{ones + strings.Repeat("\x00", 8)}},
	} {
		var want [][]byte
		for _, part := range c.want {
			want = append(want, []byte(part))
		}
		holdSplit(t, c.k, []byte(c.data), want)
	}
	holdSplit(t, 1, nil, nil)
	holdSplit(t, 4, nil, nil)
}

func TestSplitAll(t *testing.T) {
	seed := uint32(1)
	for k := 1; k <= 20; k++ {
		for size := range 400 {
			data := stirred(&seed, size)
			holdSplit(t, k, data, cut(k, data))
		}
	}
}

// Noughts that are there, and bytes that are full, count as others do.
func TestSplitAlike(t *testing.T) {
	for _, b := range []byte{0, 1, 255} {
		for k := 1; k <= 5; k++ {
			for size := range 100 {
				data := bytes.Repeat([]byte{b}, size)
				holdSplit(t, k, data, cut(k, data))
			}
		}
	}
}

func TestSplitMany(t *testing.T) {
	seed := uint32(2)
	for _, size := range []int{1<<16 - 1, 1 << 16, 1<<16 + 1, 1<<20 + 5} {
		data := stirred(&seed, size)
		for _, k := range []int{1, 3, 4, 1000, 1 << 13, 1<<13 + 1} {
			holdSplit(t, k, data, cut(k, data))
		}
	}
}

// The widest parts that there are.
func TestSplitWide(t *testing.T) {
	seed := uint32(3)
	data := stirred(&seed, 1<<23+1)
	for _, k := range []int{1<<20 - 1, 1 << 20} {
		for _, size := range []int{1, k*8 - 1, k * 8, k*8 + 1} {
			holdSplit(t, k, data[:size], cut(k, data[:size]))
		}
	}
}

func TestSplitNone(t *testing.T) {
	seed := uint32(4)
	for _, k := range below {
		for _, size := range []int{0, 1, 7, 8, 9, 16, 96, 1000} {
			holdSplit(t, k, stirred(&seed, size), nil)
		}
		holdSplit(t, k, nil, nil)
	}
}

func TestJoinKnown(t *testing.T) {
	parts := [][]byte{[]byte("abc"), nil, []byte("d"), {}, []byte("efgh")}
	for size := range 9 {
		holdJoin(t, parts, size, []byte("abcdefgh")[:size], true)
	}
	for _, size := range []int{9, 10, 16, 256 + 8, 1<<32 + 8, math.MaxInt - 1, math.MaxInt, -1, -2, -8, -1 << 32, -1<<32 + 8, math.MinInt, math.MinInt + 1} {
		holdJoin(t, parts, size, nil, false)
	}
}

// Nothing has no bytes: also not those that are below 0.
func TestJoinNothing(t *testing.T) {
	for _, parts := range [][][]byte{nil, {}, {nil}, {{}}, {nil, {}, nil}} {
		holdJoin(t, parts, 0, nil, true)
		for _, size := range append([]int{1, 2, 8, 1 << 32, math.MaxInt}, below[1:]...) {
			holdJoin(t, parts, size, nil, false)
		}
	}
}

// All rows of up to five parts of up to four bytes, with all sizes around what they have.
func TestJoinAll(t *testing.T) {
	seed := uint32(5)
	for many := range 6 {
		row := make([]int, many)
		for more := true; more; more = next(row, 4) {
			var parts [][]byte
			for _, size := range row {
				parts = append(parts, stirred(&seed, size))
			}
			for size := -2; size <= 4*many+2; size++ {
				want, ok := joined(parts, size)
				holdJoin(t, parts, size, want, ok)
			}
		}
	}
}

// next is the next row of numbers up to most; false behind the last one.
func next(row []int, most int) bool {
	for at := range row {
		if row[at] < most {
			row[at]++
			return true
		}
		row[at] = 0
	}
	return false
}

// Noughts are bytes as others are, wherever they stand: all rows of six bytes that are noughts or not, in parts of all lengths, and what is split alike.
func TestNoughts(t *testing.T) {
	for which := range 1 << 6 {
		data := make([]byte, 6)
		for at := range data {
			data[at] = byte(which >> at & 1)
		}
		for wide := 1; wide <= 6; wide++ {
			parts := slices.Collect(slices.Chunk(data, wide))
			for size := range 7 {
				holdJoin(t, parts, size, data[:size], true)
			}
			holdJoin(t, parts, 7, nil, false)
		}
		long := bytes.Repeat(data, 5)
		for k := 1; k <= 4; k++ {
			holdSplit(t, k, long, cut(k, long))
			holdJoin(t, Split(k, long), len(long), long, true)
		}
	}
}

// Parts of any lengths, many of them.
func TestJoinMany(t *testing.T) {
	seed := uint32(6)
	for _, many := range []int{1, 2, 100, 3000} {
		var parts [][]byte
		for n := range many {
			parts = append(parts, stirred(&seed, n*7%31))
		}
		all := bytes.Join(parts, nil)
		for _, size := range []int{-1, 0, 1, len(all) / 3, len(all) / 2, len(all) - 1, len(all), len(all) + 1, 2*len(all) + 1, math.MinInt, math.MaxInt} {
			want, ok := joined(parts, size)
			holdJoin(t, parts, size, want, ok)
		}
	}
}

// What was split is joined: as much of it as is asked for, with what filled it up, and no more than that.
func TestBack(t *testing.T) {
	seed := uint32(7)
	for k := 1; k <= 6; k++ {
		for size := range 130 {
			data := stirred(&seed, size)
			parts := Split(k, data)
			full := append(slices.Clone(data), make([]byte, len(parts)*k*8-size)...)
			for front := range full {
				holdJoin(t, parts, front, full[:front], true)
			}
			holdJoin(t, parts, len(full), full, true)
			holdJoin(t, parts, len(full)+1, nil, false)
			holdJoin(t, parts, -1, nil, false)
		}
	}
}

// Each part is data of which there are shards, of any code; the limits of data are those of api.
func TestParts(t *testing.T) {
	seed := uint32(8)
	for k := 1; k <= api.MaxK; k++ {
		for m := range api.MaxM + 1 {
			for size := range api.MaxData + 1 {
				data := stirred(&seed, size)
				var back [][]byte
				for _, part := range Split(k, data) {
					shards, e := rs.Encode(k, m, part)
					if e != api.OK {
						t.Fatalf("Encode(%d, %d, %v) = %d", k, m, part, e)
					}
					text, _ := rs.Decode(k, m, append(make([][]byte, m), shards[m:]...))
					back = append(back, text)
				}
				holdJoin(t, back, size, data, true)
			}
		}
	}
}

// Whatever was asked before: the same calls, done again, have the same answers.
func TestAgain(t *testing.T) {
	seed := uint32(9)
	data := stirred(&seed, 60)
	want := cut(2, data)
	for n := range 50 {
		Count(n%5, n)
		Split(n%6, data[:n])
		Join(want[:n%4], n)
		holdCount(t, 2, 60, 4)
		holdSplit(t, 2, data, want)
		holdJoin(t, want, 60, data, true)
	}
}
