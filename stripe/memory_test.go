package stripe

import (
	"bytes"
	"slices"
	"testing"
)

// roomy is the same bytes with spare room that is written full.
func roomy(b []byte) []byte {
	return append(slices.Clone(b), 77, 77, 77, 77, 77, 77, 77, 77, 77)[: len(b) : len(b)+9]
}

// spoil writes all over b, its spare room, too.
func spoil(b []byte) {
	for at := range b[:cap(b)] {
		b[:cap(b)][at] ^= 255
	}
}

// spoilAll writes all over parts and their list, spare rooms, too.
func spoilAll(parts [][]byte) {
	for at, part := range parts[:cap(parts)] {
		spoil(part)
		parts[:cap(parts)][at] = []byte("spoilt")
	}
}

func TestMemorySplit(t *testing.T) {
	seed := uint32(10)
	for k := 1; k <= 5; k++ {
		for size := range 130 {
			data := roomy(stirred(&seed, size))
			was := slices.Clone(data[:cap(data)])
			want := cut(k, data)
			got, again := Split(k, data), Split(k, data)
			// One behind the other, so that what a part has in common with a later one is seen there.
			for at := range got {
				spoil(got[at])
				if !slices.EqualFunc(got[at+1:], want[at+1:], bytes.Equal) {
					t.Errorf("Split(%d) of %d bytes: part %d shares with a later one", k, size, at)
				}
			}
			spoilAll(got)
			if !bytes.Equal(data[:cap(data)], was) {
				t.Errorf("Split(%d) of %d bytes: data is another, or shared", k, size)
			}
			spoil(data)
			if !slices.EqualFunc(again, want, bytes.Equal) {
				t.Errorf("Split(%d) of %d bytes: answers share, with each other, or with data", k, size)
			}
		}
	}
}

// given is parts whose list has spare room, as they have, and a look at all of it.
func given(seed *uint32, many int) ([][]byte, func() []byte) {
	parts := make([][]byte, 0, many+2)
	for n := range many {
		parts = append(parts, roomy(stirred(seed, n*5%9)))
	}
	parts = append(parts, []byte("spare"), nil)[:many]
	return parts, func() (all []byte) {
		for _, part := range parts[:cap(parts)] {
			all = append(append(all, byte(len(part)), byte(cap(part))), part[:cap(part)]...)
		}
		return all
	}
}

func TestMemoryJoin(t *testing.T) {
	seed := uint32(11)
	for many := range 8 {
		for size := -1; size <= 8*many+1; size++ {
			parts, whole := given(&seed, many)
			was := whole()
			want, ok := joined(parts, size)
			want = slices.Clone(want)
			got, _ := Join(parts, size)
			again, aok := Join(parts, size)
			spoil(got)
			if !bytes.Equal(whole(), was) {
				t.Errorf("Join of %d parts, %d: they are others, or shared", many, size)
			}
			spoilAll(parts)
			if !bytes.Equal(again, want) || aok != ok {
				t.Errorf("Join of %d parts, %d: answers share, with each other, or with the parts", many, size)
			}
		}
	}
}

// Of one part alone, and of its front, there is new memory, too.
func TestMemoryJoinOne(t *testing.T) {
	for size := range 9 {
		part := roomy([]byte("onealone"))
		got, _ := Join([][]byte{part}, size)
		spoil(part)
		if string(got) != "onealone"[:size] {
			t.Errorf("Join of one part, %d: its answer is shared", size)
		}
	}
}

// The same bytes may be handed in as several parts.
func TestJoinShared(t *testing.T) {
	one := []byte("abc")
	holdJoin(t, [][]byte{one, one[1:], one, one[:1]}, 9, []byte("abcbcabca"), true)
	holdJoin(t, [][]byte{one, one[1:], one, one[:1]}, 7, []byte("abcbcab"), true)
	holdJoin(t, [][]byte{one, one[1:], one, one[:1]}, 10, nil, false)
}
