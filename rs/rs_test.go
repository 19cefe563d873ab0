package rs

import (
	"bytes"
	"math"
	"slices"
	"testing"

	"flitting/api"
	"flitting/gf"
)

// stirred is bytes that follow a rule, from a seed that goes on.
func stirred(seed *uint32, size int) []byte {
	data := make([]byte, size)
	for at := range data {
		*seed = *seed*1664525 + 1013904223
		data[at] = byte(*seed >> 24)
	}
	return data
}

// shardOf is shard at of data, byte by byte, by chapter 2's words for a code: another way than the program's.
func shardOf(k int, data []byte, at int) []byte {
	if at < k {
		return slices.Clone(data[at*8 : at*8+8])
	}
	shard := make([]byte, 8)
	for i := range shard {
		for j := 0; j < k; j++ {
			shard[i] ^= gf.Mul(gf.Inv(byte(at^j)), data[j*8+i])
		}
	}
	return shard
}

// shardsOf is all shards of data.
func shardsOf(k, m int, data []byte) [][]byte {
	var shards [][]byte
	for at := 0; at < k+m; at++ {
		shards = append(shards, shardOf(k, data, at))
	}
	return shards
}

// chosen is the shards whose bits stand in which; the others are nil, or empty, by turns.
func chosen(shards [][]byte, which int) [][]byte {
	some := make([][]byte, len(shards))
	for at := range some {
		switch {
		case which>>at&1 == 1:
			some[at] = slices.Clone(shards[at])
		case at%2 == 0:
			some[at] = []byte{}
		}
	}
	return some
}

// ones is how many bits stand in which.
func ones(which int) int {
	count := 0
	for ; which != 0; which >>= 1 {
		count += which & 1
	}
	return count
}

// each does so for every k and m there may be.
func each(so func(k, m int)) {
	for k := 1; k <= 4; k++ {
		for m := 0; m <= 3; m++ {
			so(k, m)
		}
	}
}

// notCodes are numbers of which there is no code.
var notCodes = [][2]int{
	{0, 0}, {0, 1}, {-1, 0}, {-1, 1}, {-1, 2}, {5, 0}, {5, 3}, {6, 1}, {1, -1}, {4, -1}, {3, -2}, {1, 4}, {4, 4}, {2, 5}, {5, -1},
	{256, 1}, {257, 1}, {1, 256}, {1, 257}, {1 << 32, 1}, {1<<32 + 1, 1}, {1, 1 << 32}, {1, 1<<32 + 1},
	{1 << 61, 0}, {1<<61 + 1, 1}, {math.MinInt, 0}, {math.MinInt, 1}, {math.MaxInt, 0}, {math.MaxInt, 3}, {1, math.MinInt}, {1, math.MaxInt},
	{math.MinInt, math.MinInt}, {math.MaxInt, math.MaxInt}, {math.MinInt, math.MaxInt}, {math.MaxInt, math.MinInt}, {math.MaxInt, -math.MaxInt + 1},
}

func TestEncodeKnown(t *testing.T) {
	data := []byte{1, 2, 3, 4, 5, 6, 7, 8, 0, 0, 0, 0, 2, 2, 2, 255}
	for _, c := range []struct {
		k, m int
		data []byte
		want [][]byte
	}{
		{1, 0, data[:8], [][]byte{data[:8]}},
		{1, 1, data[8:], [][]byte{data[8:], data[8:]}},
		{2, 0, data, [][]byte{data[:8], data[8:]}},
		// The third is 142 times the first, and 244 times the second; 142 times 2 is 1, 244 times 3 is 1.
		{2, 1, []byte{2, 0, 2, 0, 1, 0, 0, 4, 0, 3, 3, 0, 0, 1, 0, 0}, [][]byte{{2, 0, 2, 0, 1, 0, 0, 4}, {0, 3, 3, 0, 0, 1, 0, 0}, {1, 1, 0, 0, 142, 244, 0, 2}}},
		{1, 3, []byte{2, 3, 0, 1, 0, 0, 0, 0}, [][]byte{{2, 3, 0, 1, 0, 0, 0, 0}, {2, 3, 0, 1, 0, 0, 0, 0}, {1, 143, 0, 142, 0, 0, 0, 0}, {245, 1, 0, 244, 0, 0, 0, 0}}},
	} {
		if got, e := Encode(c.k, c.m, c.data); e != api.OK || !slices.EqualFunc(got, c.want, bytes.Equal) {
			t.Errorf("Encode(%d, %d, %v) = %v, %d, want %v", c.k, c.m, c.data, got, e, c.want)
		}
	}
}

func TestEncodeAll(t *testing.T) {
	seed := uint32(1)
	each(func(k, m int) {
		for range 20 {
			data := stirred(&seed, k*8)
			want := shardsOf(k, m, data)
			if got, e := Encode(k, m, data); e != api.OK || !slices.EqualFunc(got, want, bytes.Equal) {
				t.Errorf("Encode(%d, %d, %v) = %v, %d, want %v", k, m, data, got, e, want)
			}
		}
	})
}

// Each byte of data counts at its own place, and at no other.
func TestEncodeOneByte(t *testing.T) {
	each(func(k, m int) {
		for at := range k * 8 {
			data := make([]byte, k*8)
			data[at] = 129
			want := shardsOf(k, m, data)
			if got, e := Encode(k, m, data); e != api.OK || !slices.EqualFunc(got, want, bytes.Equal) {
				t.Errorf("Encode(%d, %d) of one byte at %d = %v, %d, want %v", k, m, at, got, e, want)
			}
		}
	})
}

func TestEncodeWrong(t *testing.T) {
	each(func(k, m int) {
		for _, size := range []int{0, 1, 7, 8, 9, 15, 16, 17, 23, 24, 25, 31, 32, 33, 40, 56, k*8 - 1, k*8 + 1, k*8 + 8, (k + m) * 8, 256 + k*8} {
			if size == k*8 {
				continue
			}
			if got, e := Encode(k, m, make([]byte, size)); e != api.ErrArg || len(got) != 0 {
				t.Errorf("Encode(%d, %d) of %d bytes = %v, %d, want nothing, ErrArg", k, m, size, got, e)
			}
		}
		if got, e := Encode(k, m, nil); e != api.ErrArg || len(got) != 0 {
			t.Errorf("Encode(%d, %d, nil) = %v, %d, want nothing, ErrArg", k, m, got, e)
		}
	})
	for _, c := range notCodes {
		for size := 0; size <= 48; size += 8 {
			if got, e := Encode(c[0], c[1], make([]byte, size)); e != api.ErrArg || len(got) != 0 {
				t.Errorf("Encode(%d, %d) of %d bytes = %v, %d, want nothing, ErrArg", c[0], c[1], size, got, e)
			}
		}
	}
}

// Any k shards are the data, and make any shard; fewer are nothing.
func TestDecodeAny(t *testing.T) {
	seed := uint32(2)
	each(func(k, m int) {
		data := stirred(&seed, k*8)
		all := shardsOf(k, m, data)
		for which := range 1 << (k + m) {
			some := chosen(all, which)
			want, wrong := data, api.OK
			if ones(which) < k {
				want, wrong = nil, api.ErrLost
			}
			if got, e := Decode(k, m, some); e != wrong || !bytes.Equal(got, want) {
				t.Errorf("Decode(%d, %d, %v) = %v, %d, want %v, %d", k, m, some, got, e, want, wrong)
			}
			for at := range all {
				if wrong == api.OK {
					want = all[at]
				}
				if got, e := Rebuild(k, m, some, at); e != wrong || !bytes.Equal(got, want) {
					t.Errorf("Rebuild(%d, %d, %v, %d) = %v, %d, want %v, %d", k, m, some, at, got, e, want, wrong)
				}
			}
		}
	})
}

// Shards behind the first k do not count: they may be anything.
func TestDecodeFirst(t *testing.T) {
	seed := uint32(3)
	each(func(k, m int) {
		data := stirred(&seed, k*8)
		all := shardsOf(k, m, data)
		for which := range 1 << (k + m) {
			if ones(which) <= k {
				continue
			}
			some := chosen(all, which)
			count := 0
			for at := range some {
				if which>>at&1 == 1 {
					count++
				}
				if which>>at&1 == 1 && count > k {
					some[at] = stirred(&seed, 8)
				}
			}
			if got, e := Decode(k, m, some); e != api.OK || !bytes.Equal(got, data) {
				t.Errorf("Decode(%d, %d, %v) = %v, %d, want %v", k, m, some, got, e, data)
			}
			for at := range all {
				if got, e := Rebuild(k, m, some, at); e != api.OK || !bytes.Equal(got, all[at]) {
					t.Errorf("Rebuild(%d, %d, %v, %d) = %v, %d, want %v", k, m, some, at, got, e, all[at])
				}
			}
		}
	})
}

// Of any k shards there is data, whatever bytes they are; these are its shards.
func TestDecodeAnyBytes(t *testing.T) {
	seed := uint32(4)
	each(func(k, m int) {
		for which := range 1 << (k + m) {
			if ones(which) != k {
				continue
			}
			some := make([][]byte, k+m)
			for at := range some {
				if which>>at&1 == 1 {
					some[at] = stirred(&seed, 8)
				}
			}
			data, e := Decode(k, m, some)
			if e != api.OK || len(data) != k*8 {
				t.Fatalf("Decode(%d, %d, %v) = %v, %d", k, m, some, data, e)
			}
			for at := range some {
				want := shardOf(k, data, at)
				if some[at] != nil && !bytes.Equal(some[at], want) {
					t.Errorf("Decode(%d, %d, %v) = %v, of which shard %d is %v", k, m, some, data, at, want)
				}
				if got, e := Rebuild(k, m, some, at); e != api.OK || !bytes.Equal(got, want) {
					t.Errorf("Rebuild(%d, %d, %v, %d) = %v, %d, want %v", k, m, some, at, got, e, want)
				}
			}
		}
	})
}

// A shard of noughts is not empty.
func TestDecodeNoughts(t *testing.T) {
	noughts := make([]byte, 8)
	for _, some := range [][][]byte{{noughts, noughts, nil}, {nil, noughts, noughts}, {noughts, {}, noughts}, {noughts, noughts, noughts}} {
		if got, e := Decode(2, 1, some); e != api.OK || !bytes.Equal(got, make([]byte, 16)) {
			t.Errorf("Decode(2, 1, %v) = %v, %d", some, got, e)
		}
	}
	if got, e := Decode(2, 1, [][]byte{noughts, nil, {}}); e != api.ErrLost || len(got) != 0 {
		t.Errorf("Decode of one of two = %v, %d, want nothing, ErrLost", got, e)
	}
}

// refused holds that Decode has error wrong, and Rebuild the same for any at.
func refused(t *testing.T, k, m int, shards [][]byte, wrong api.Errno) {
	t.Helper()
	if got, e := Decode(k, m, shards); e != wrong || len(got) != 0 {
		t.Errorf("Decode(%d, %d, %v) = %v, %d, want nothing, %d", k, m, shards, got, e, wrong)
	}
	for _, at := range []int{0, 1, 2, k, k + m, -1, math.MinInt, math.MaxInt} {
		if got, e := Rebuild(k, m, shards, at); e != wrong || len(got) != 0 {
			t.Errorf("Rebuild(%d, %d, %v, %d) = %v, %d, want nothing, %d", k, m, shards, at, got, e, wrong)
		}
	}
}

func TestDecodeNoCode(t *testing.T) {
	one := make([]byte, 8)
	for _, c := range notCodes {
		for count := range 10 {
			refused(t, c[0], c[1], make([][]byte, count), api.ErrArg)
			refused(t, c[0], c[1], slices.Repeat([][]byte{one}, count), api.ErrArg)
		}
	}
}

// As many shards as there are drives for: one more, or one less, is ErrArg, also where it is empty, and where fewer than k are there.
func TestDecodeCount(t *testing.T) {
	seed := uint32(5)
	each(func(k, m int) {
		for count := range 10 {
			if count == k+m {
				continue
			}
			refused(t, k, m, make([][]byte, count), api.ErrArg)
			refused(t, k, m, slices.Repeat([][]byte{stirred(&seed, 8)}, count), api.ErrArg)
		}
		all := shardsOf(k, m, stirred(&seed, k*8))
		refused(t, k, m, append(slices.Clone(all), nil), api.ErrArg)
		refused(t, k, m, append([][]byte{{}}, all...), api.ErrArg)
		refused(t, k, m, all[:k+m-1], api.ErrArg)
		refused(t, k, m, all[1:], api.ErrArg)
		refused(t, k, m, nil, api.ErrArg)
	})
}

// A shard of another length is ErrArg wherever it stands: behind the first k, and where fewer than k are there, too.
func TestDecodeLength(t *testing.T) {
	seed := uint32(6)
	each(func(k, m int) {
		all := shardsOf(k, m, stirred(&seed, k*8))
		for at := range all {
			for _, size := range []int{1, 2, 7, 9, 16, 264} {
				some := slices.Clone(all)
				some[at] = make([]byte, size)
				refused(t, k, m, some, api.ErrArg)
				alone := make([][]byte, k+m)
				alone[at] = make([]byte, size)
				refused(t, k, m, alone, api.ErrArg)
			}
		}
	})
}

func TestDecodeLost(t *testing.T) {
	each(func(k, m int) {
		refused(t, k, m, make([][]byte, k+m), api.ErrLost)
		refused(t, k, m, slices.Repeat([][]byte{{}}, k+m), api.ErrLost)
		for count := range k {
			some := make([][]byte, k+m)
			for at := range count {
				some[k+m-1-at] = make([]byte, 8)
			}
			refused(t, k, m, some, api.ErrLost)
		}
	})
}

func TestRebuildWhere(t *testing.T) {
	seed := uint32(7)
	each(func(k, m int) {
		all := shardsOf(k, m, stirred(&seed, k*8))
		for _, at := range []int{k + m, k + m + 1, 8, 256, -1, -2, -k, -k - m, 1 << 32, 1<<32 + 1, -1 << 32, math.MaxInt32, math.MinInt32, math.MaxInt, math.MaxInt - 1, math.MinInt, math.MinInt + 1} {
			if got, e := Rebuild(k, m, all, at); e != api.ErrArg || len(got) != 0 {
				t.Errorf("Rebuild(%d, %d, all, %d) = %v, %d, want nothing, ErrArg", k, m, at, got, e)
			}
		}
	})
}

// roomy is the same bytes with spare room that is written full.
func roomy(b []byte) []byte {
	return append(slices.Clone(b), 77, 77, 77)[: len(b) : len(b)+3]
}

// spoil writes all over b, its spare room, too.
func spoil(b []byte) {
	for at := range b[:cap(b)] {
		b[:cap(b)][at] ^= 255
	}
}

func TestMemoryEncode(t *testing.T) {
	seed := uint32(8)
	each(func(k, m int) {
		data := roomy(stirred(&seed, k*8))
		was := slices.Clone(data[:cap(data)])
		got, _ := Encode(k, m, data)
		again, _ := Encode(k, m, data)
		want := shardsOf(k, m, data)
		for at := range got {
			spoil(got[at])
			if !slices.EqualFunc(got[at+1:], want[at+1:], bytes.Equal) {
				t.Errorf("Encode(%d, %d): shard %d shares with a later one", k, m, at)
			}
		}
		if !bytes.Equal(data[:cap(data)], was) {
			t.Errorf("Encode(%d, %d): data is another, or shared", k, m)
		}
		spoil(data)
		if !slices.EqualFunc(again, want, bytes.Equal) {
			t.Errorf("Encode(%d, %d): answers share, with each other, or with data", k, m)
		}
	})
}

func TestMemoryDecode(t *testing.T) {
	seed := uint32(9)
	each(func(k, m int) {
		data := stirred(&seed, k*8)
		for which := range 1 << (k + m) {
			if ones(which) < k {
				continue
			}
			given := make([][]byte, 0, k+m+1)
			for _, shard := range chosen(shardsOf(k, m, data), which) {
				given = append(given, roomy(shard))
			}
			given = append(given, []byte{88})[:k+m]
			whole := func() (all []byte) {
				for _, shard := range given[:cap(given)] {
					all = append(all, shard[:cap(shard)]...)
				}
				return append(all, byte(len(given)))
			}
			was := whole()
			got, _ := Decode(k, m, given)
			again, _ := Decode(k, m, given)
			spoil(got)
			for at := range given {
				shard, _ := Rebuild(k, m, given, at)
				other, _ := Rebuild(k, m, given, at)
				spoil(shard)
				if !bytes.Equal(other, shardOf(k, data, at)) {
					t.Errorf("Rebuild(%d, %d): answers share", k, m)
				}
			}
			if !bytes.Equal(whole(), was) {
				t.Fatalf("Decode, Rebuild(%d, %d): what was handed in is another, or shared", k, m)
			}
			for _, shard := range given {
				spoil(shard)
			}
			if !bytes.Equal(again, data) {
				t.Fatalf("Decode(%d, %d): answers share, with each other, or with the shards", k, m)
			}
		}
	})
}

// The same bytes may be handed in as several shards.
func TestSharedShards(t *testing.T) {
	one := []byte{1, 2, 3, 4, 5, 6, 7, 8}
	shards := [][]byte{one, one, one, one}
	if got, e := Decode(3, 1, shards); e != api.OK || !bytes.Equal(got, bytes.Repeat(one, 3)) {
		t.Errorf("Decode of one shard, three times = %v, %d", got, e)
	}
	if got, e := Rebuild(3, 1, shards, 3); e != api.OK || !bytes.Equal(got, shardOf(3, bytes.Repeat(one, 3), 3)) {
		t.Errorf("Rebuild of one shard, three times = %v, %d", got, e)
	}
}
