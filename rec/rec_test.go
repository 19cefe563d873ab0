package rec

import (
	"bytes"
	"encoding/hex"
	"math"
	"slices"
	"strings"
	"sync"
	"testing"

	"flitting/api"
)

// full has at least two of all that a record may have, all of them unlike.
func full() api.Rec {
	return api.Rec{
		Kind: api.RecAll, ID: 0x01020304, Size: 0x05060708, Key: "the first key",
		Stripes: []api.Stripe{{ID: 16, Epoch: 1, Locs: []int{2, 3}}, {ID: 17, Epoch: 4, Locs: []int{5, 6, 7}}},
		Objects: []api.Object{
			{Key: "a", ID: 8, Size: 9, Stripes: []api.Stripe{{ID: 128, Epoch: 10, Locs: []int{11, 12}}, {ID: 129, Epoch: 13, Locs: []int{14, 15}}}},
			{Key: "\x00\xff\n", ID: 18, Size: 19, Stripes: []api.Stripe{{ID: 288, Epoch: 20, Locs: []int{21, 22}}, {ID: 289, Epoch: 23, Locs: []int{24, 25}}}},
		},
		Drives: []int{26, 27, 28},
	}
}

// ordinary are records as a store has them.
func ordinary() []api.Rec {
	stripes := []api.Stripe{{ID: 48, Epoch: 2, Locs: []int{4, 0, 1}}, {ID: 49, Epoch: 2, Locs: []int{1, 3, 0}}}
	return []api.Rec{
		{Kind: api.RecPut, Key: "key", ID: 3, Size: 20, Stripes: stripes},
		{Kind: api.RecPut, Key: "empty", ID: 4},
		{Kind: api.RecDel, Key: "key", ID: 5},
		{Kind: api.RecMove, Stripes: stripes[1:]},
		{Kind: api.RecPool, ID: 1, Drives: []int{api.In, api.In, api.Draining, api.Gone}},
		{Kind: api.RecAll, ID: 5, Size: 2, Drives: []int{api.In, api.In, api.In, api.In, api.Gone}, Objects: []api.Object{
			{Key: "empty", ID: 4}, {Key: "key", ID: 3, Size: 20, Stripes: stripes},
		}},
		{Kind: api.RecAll},
	}
}

// some are records of all sorts that fit.
func some() []api.Rec {
	list := append(ordinary(), full())
	for kind := api.RecPut; kind <= api.RecAll; kind++ {
		list = append(list, api.Rec{Kind: kind}, api.Rec{Kind: kind, Stripes: make([]api.Stripe, 1), Objects: make([]api.Object, 1), Drives: make([]int, 1)})
	}
	seed := seeded(1)
	for most := range 5 {
		for range 8 {
			list = append(list, seed.rec(most))
		}
	}
	return list
}

// sized is a record that has just so many bytes: 14 that each has, 10 for each object but its key, and keys.
func sized(size int) api.Rec {
	r := api.Rec{Kind: api.RecAll, Objects: make([]api.Object, (size-14)/10)}
	for n := range r.Objects {
		r.Objects[n].ID = n
	}
	r.Key = "123456789"[:(size-14)%10]
	return r
}

// holdRec holds both ways of a record that fits, and is not too large.
func holdRec(t *testing.T, r api.Rec) {
	t.Helper()
	want := bytesOf(r)
	if b, e := Encode(r); e != api.OK || !bytes.Equal(b, want) {
		t.Errorf("Encode(%v) = %v, %d, want %v, OK", r, b, e, want)
	}
	holdDecode(t, want, r)
}

func holdDecode(t *testing.T, b []byte, want api.Rec) {
	t.Helper()
	// What is unlike is told by bytes, too, so that this does not hang on Same.
	if r, e := Decode(b); e != api.OK || !Same(r, want) || !bytes.Equal(bytesOf(r), bytesOf(want)) {
		t.Errorf("Decode(%v) = %v, %d, want %v, OK", b, r, e, want)
	}
}

// holdRefused holds the error that Encode has for r, and that there is nothing beside it.
func holdRefused(t *testing.T, what string, r api.Rec, want api.Errno) {
	t.Helper()
	if b, e := Encode(r); e != want || len(b) != 0 {
		t.Errorf("Encode of a record with %s has %d bytes, %d, want none, %d", what, len(b), e, want)
	}
}

// bare tells whether r has nothing at all.
func bare(r api.Rec) bool {
	return r.Kind == 0 && r.ID == 0 && r.Size == 0 && r.Key == "" && len(r.Stripes) == 0 && len(r.Objects) == 0 && len(r.Drives) == 0
}

// holdNone holds that b is no record, and that there is nothing beside the error.
func holdNone(t *testing.T, what string, b []byte) {
	t.Helper()
	if r, e := Decode(b); e != api.ErrForm || !bare(r) {
		t.Errorf("Decode of %s, %v = %v, %d, want nothing, ErrForm", what, b[:min(len(b), 100)], r, e)
	}
}

// holdBytes holds Decode of any bytes against the model.
func holdBytes(t *testing.T, what string, b []byte) {
	t.Helper()
	if r, ok := recOf(b); ok {
		holdDecode(t, b, r)
	} else {
		holdNone(t, what, b)
	}
}

func TestKnown(t *testing.T) {
	for _, c := range []struct {
		r    api.Rec
		want string
	}{
		{api.Rec{Kind: api.RecPut}, "01 00000000 00000000 00 00 0000 00"},
		{api.Rec{Kind: api.RecDel, ID: 5, Key: "key"}, "02 00000005 00000000 03 6b6579 00 0000 00"},
		{api.Rec{Kind: api.RecMove, Stripes: []api.Stripe{{ID: 0x11223344, Epoch: 2, Locs: []int{0, 1 << 30}}}},
			"03 00000000 00000000 00 01 11223344 00000002 02 00000000 40000000 0000 00"},
		{api.Rec{Kind: api.RecPool, ID: 1 << 30, Drives: []int{1, 2, 0}}, "04 40000000 00000000 00 00 0000 03 00000001 00000002 00000000"},
		{api.Rec{Kind: api.RecAll, ID: 7, Size: 0x01020304, Drives: []int{1}, Objects: []api.Object{
			{Key: "a", ID: 6, Size: 9, Stripes: []api.Stripe{{ID: 96, Epoch: 1, Locs: []int{3}}}}, {Key: "", ID: 5},
		}}, "05 00000007 01020304 00 00 0002 01 61 00000006 00000009 01 00000060 00000001 01 00000003 00 00000005 00000000 00 01 00000001"},
		{api.Rec{Kind: api.RecAll, Stripes: make([]api.Stripe, 1), Objects: make([]api.Object, 1)},
			"05 00000000 00000000 00 01 00000000 00000000 00 0001 00 00000000 00000000 00 00"},
	} {
		want, err := hex.DecodeString(strings.ReplaceAll(c.want, " ", ""))
		if err != nil {
			t.Fatal(err)
		}
		if b, e := Encode(c.r); e != api.OK || !bytes.Equal(b, want) {
			t.Errorf("Encode(%v) = %x, %d, want %x, OK", c.r, b, e, want)
		}
		holdDecode(t, want, c.r)
	}
}

func TestBothWays(t *testing.T) {
	for _, r := range some() {
		holdRec(t, r)
	}
	seed := seeded(2)
	for range 2000 {
		holdRec(t, seed.rec(3))
	}
}

func TestKinds(t *testing.T) {
	for _, r := range append(ordinary(), full()) {
		for _, r.Kind = range []int{1, 2, 3, 4, 5} {
			holdRec(t, r)
		}
		for _, r.Kind = range []int{0, -1, -255, -256, 6, 7, 255, 256, 257, 261, 1<<16 + 1, 1<<32 + 1, math.MinInt, math.MinInt + 1, math.MaxInt} {
			holdRefused(t, "a Kind that there is not", r, api.ErrForm)
		}
		b := bytesOf(r)
		for kind := range 256 {
			b[0] = byte(kind)
			holdBytes(t, "a Kind that there is not", b)
		}
	}
}

// Each number anywhere may be from 0 to MaxID.
func TestNumbers(t *testing.T) {
	r := full()
	for place, n := range numbersIn(&r) {
		was := *n
		for _, *n = range []int{0, 1, 255, 256, 1<<16 - 1, 1 << 16, 1<<24 + 1, 1<<30 - 1, 1 << 30} {
			holdRec(t, r)
		}
		for _, *n = range []int{-1, -2, -1 << 30, -1 << 31, -1 << 32, math.MinInt, 1<<30 + 1, 1<<31 - 1, 1 << 31, 1<<32 - 1, 1 << 32, 1<<32 + 1, 1<<40 + 5, math.MaxInt} {
			holdRefused(t, "a number that does not fit", r, api.ErrForm)
		}
		for _, *n = range []int{1<<30 + 1, 1<<31 - 1, 1 << 31, 1<<31 + 1, 1<<32 - 1} {
			holdNone(t, "a number that does not fit", bytesOf(r))
		}
		*n = was
		if t.Failed() {
			t.Fatalf("number %d", place)
		}
	}
}

// Each key anywhere may have up to MaxKey bytes, whatever bytes.
func TestKeys(t *testing.T) {
	seed := seeded(3)
	r := full()
	for _, key := range keysIn(&r) {
		was := *key
		for size := range 17 {
			for _, fill := range []string{"\x00", "k", "\xff", "\x80\xc3"} {
				*key = strings.Repeat(fill, size)[:size]
				holdRec(t, r)
			}
		}
		for range 200 {
			*key = seed.key()
			holdRec(t, r)
		}
		for _, size := range []int{17, 18, 31, 32, 255, 256, 257, 256 + 16, 1 << 16, 1<<16 + 3, 1 << 24} {
			*key = strings.Repeat("k", size)
			holdRefused(t, "a key that is too long", r, api.ErrForm)
		}
		for size := 17; size < 256; size++ {
			*key = strings.Repeat("k", size)
			holdNone(t, "a key that is too long", bytesOf(r))
		}
		*key = was
	}
}

// What is in a list may be as many as there are numbers for in its bytes.
func TestDrivesCount(t *testing.T) {
	r := full()
	for _, drives := range drivesIn(&r) {
		was := *drives
		for _, size := range []int{0, 1, 2, 12, 13, 127, 128, 254, 255} {
			*drives = make([]int, size)
			for n := range size {
				(*drives)[n] = n << 20
			}
			holdRec(t, r)
		}
		for _, size := range []int{256, 257, 511, 512, 1 << 12, 1 << 16, 1<<16 + 1} {
			*drives = make([]int, size)
			holdRefused(t, "too many drives", r, api.ErrForm)
		}
		*drives = was
	}
}

func TestStripesCount(t *testing.T) {
	r := full()
	for _, stripes := range stripesIn(&r) {
		was := *stripes
		for _, size := range []int{0, 1, 2, 127, 128, 254, 255} {
			*stripes = make([]api.Stripe, size)
			for n := range size {
				(*stripes)[n] = api.Stripe{ID: n, Epoch: n << 20, Locs: make([]int, n%3)}
			}
			holdRec(t, r)
		}
		for _, size := range []int{256, 257, 511, 512, 1 << 12, 1 << 16, 1<<16 + 1} {
			*stripes = make([]api.Stripe, size)
			holdRefused(t, "too many stripes", r, api.ErrForm)
		}
		*stripes = was
	}
}

func TestObjectsCount(t *testing.T) {
	for _, size := range []int{0, 1, 2, 255, 256, 257, 511, 512, 816, 817} {
		holdRec(t, sized(14+10*size))
	}
	for _, size := range []int{818, 1000, 1 << 15, 65534, 65535} {
		holdRefused(t, "more objects than there is room for", sized(14+10*size), api.ErrTooLarge)
	}
	for _, size := range []int{65536, 65537, 65536 + 256, 1 << 17, 1<<17 + 1} {
		holdRefused(t, "too many objects", sized(14+10*size), api.ErrForm)
	}
}

// A record has at most MaxRecord bytes, whatever of it comes last.
func TestSizes(t *testing.T) {
	for size := 8192 - 60; size <= 8192; size++ {
		holdRec(t, sized(size))
	}
	for size := 8193; size <= 8192+60; size++ {
		holdRefused(t, "too many bytes", sized(size), api.ErrTooLarge)
		holdNone(t, "too many bytes", bytesOf(sized(size)))
	}
	for more := range 100 {
		r := sized(8192 - more)
		for r.Drives = nil; len(bytesOf(r)) <= 8192; r.Drives = append(r.Drives, 1) {
			holdRec(t, r)
		}
		holdRefused(t, "too many bytes by its drives", r, api.ErrTooLarge)
		holdNone(t, "too many bytes by its drives", bytesOf(r))
	}
	for more := 1; more <= 16; more++ {
		r := sized(8192 - 9 + more)
		r.Key = strings.Repeat("k", 9)
		if r.Objects[800].Key = strings.Repeat("k", more); len(bytesOf(r)) <= 8192 {
			holdRec(t, r)
		} else {
			holdRefused(t, "too many bytes by a key", r, api.ErrTooLarge)
			holdNone(t, "too many bytes by a key", bytesOf(r))
		}
	}
}

// Too large by stripes, or by what is in them.
func TestSizesOfStripes(t *testing.T) {
	r := api.Rec{Kind: api.RecMove}
	for n := range 255 {
		r.Stripes = append(r.Stripes, api.Stripe{ID: n, Locs: make([]int, 5)})
	}
	for n := range 255 {
		// 14 bytes that each record has, and of each stripe 9 and those of its Locs.
		size := 14 + 255*(9+4*5) + 4*n
		r.Stripes[100].Locs = make([]int, 5+n)
		if 5+n > 255 {
			holdRefused(t, "too many Locs", r, api.ErrForm)
		} else if size <= 8192 {
			holdRec(t, r)
		} else {
			holdRefused(t, "too many bytes by its Locs", r, api.ErrTooLarge)
			holdNone(t, "too many bytes by its Locs", bytesOf(r))
		}
	}
	r.Stripes[100].Locs = nil
	r.Objects = []api.Object{{Stripes: slices.Clone(r.Stripes)}}
	holdRefused(t, "too many bytes by an object's stripes", r, api.ErrTooLarge)
	holdNone(t, "too many bytes by an object's stripes", bytesOf(r))
	whole := []api.Stripe{{Locs: make([]int, 255)}}
	r = api.Rec{Kind: api.RecAll, Stripes: slices.Repeat(whole, 255), Drives: whole[0].Locs, Objects: slices.Repeat([]api.Object{{Stripes: slices.Repeat(whole, 255)}}, 20)}
	holdRefused(t, "as many as may be", r, api.ErrTooLarge)
}

// What does not fit is told ahead of what is too large, wherever it stands.
func TestFormFirst(t *testing.T) {
	large := sized(10000)
	large.Stripes = full().Stripes
	large.Drives = []int{1, 2, 3}
	for n := range large.Objects {
		if n%100 == 7 || n == len(large.Objects)-1 {
			large.Objects[n].Stripes = clone(full()).Stripes
		}
	}
	holdRefused(t, "too many bytes", large, api.ErrTooLarge)
	for _, n := range numbersIn(&large) {
		was := *n
		for _, *n = range []int{-1, 1<<30 + 1} {
			holdRefused(t, "too many bytes and a number that does not fit", large, api.ErrForm)
		}
		*n = was
	}
	for _, key := range keysIn(&large) {
		was := *key
		*key = "seventeen of them"
		holdRefused(t, "too many bytes and a key that is too long", large, api.ErrForm)
		*key = was
	}
	for _, drives := range drivesIn(&large) {
		was := *drives
		*drives = make([]int, 256)
		holdRefused(t, "too many bytes and drives", large, api.ErrForm)
		*drives = was
	}
	for _, stripes := range stripesIn(&large) {
		was := *stripes
		*stripes = make([]api.Stripe, 256)
		holdRefused(t, "too many bytes and stripes", large, api.ErrForm)
		*stripes = was
	}
	for _, large.Kind = range []int{0, 6} {
		holdRefused(t, "too many bytes and no Kind", large, api.ErrForm)
	}
	large.Kind = api.RecAll
	large.Objects = make([]api.Object, 65536)
	holdRefused(t, "too many bytes and objects", large, api.ErrForm)
}

// Bytes that are cut, ahead or behind, or have more.
func TestDecodeLengths(t *testing.T) {
	holdNone(t, "nil", nil)
	holdNone(t, "nothing", []byte{})
	for _, r := range some() {
		b := bytesOf(r)
		for at := range b {
			holdNone(t, "a record without its end", b[:at])
			holdBytes(t, "a record without its front", b[at:])
			holdBytes(t, "a record without a byte", slices.Delete(slices.Clone(b), at, at+1))
			holdBytes(t, "a record with one more", slices.Insert(slices.Clone(b), at, 0))
		}
		for _, more := range [][]byte{{0}, {1}, {255}, make([]byte, 4), b} {
			holdNone(t, "a record and more", slices.Concat(b, more))
		}
	}
}

// Any one byte is another one.
func TestDecodeTurned(t *testing.T) {
	list := append(ordinary(), full())
	seed := seeded(4)
	for range 10 {
		list = append(list, seed.rec(2))
	}
	for _, r := range list {
		b := bytesOf(r)
		for at, was := range b {
			for other := range 256 {
				b[at] = byte(other)
				holdBytes(t, "bytes of which one was changed", b)
			}
			b[at] = was
		}
		holdDecode(t, b, r)
	}
}

// Whatever bytes stand there.
func TestDecodeAnyBytes(t *testing.T) {
	seed := seeded(5)
	for range 30000 {
		b := make([]byte, seed.below(60))
		for at := range b {
			// Mostly few: so that some are a record's, or nearly so.
			if b[at] = byte(seed.below(3)); seed.below(20) == 0 {
				b[at] = byte(seed.below(256))
			}
		}
		holdBytes(t, "any bytes", b)
	}
	for range 5000 {
		b := bytesOf(seed.rec(3))
		for range 1 + seed.below(3) {
			b[seed.below(len(b))] ^= 1 << seed.below(8)
		}
		holdBytes(t, "bytes of which some bits were turned", b)
	}
	for _, size := range []int{14, 8191, 8192, 8193, 1 << 14, 1 << 20} {
		for _, fill := range []byte{0, 1, 2, 5, 255} {
			holdBytes(t, "the same byte all over", bytes.Repeat([]byte{fill}, size))
		}
	}
}

// As many as may be told are not there.
func TestDecodeFewer(t *testing.T) {
	holdNone(t, "fewer objects than told", []byte("\x05\x00\x00\x00\x00\x00\x00\x00\x00\x00\x00\xff\xff\x00"))
	holdNone(t, "fewer stripes than told", []byte("\x05\x00\x00\x00\x00\x00\x00\x00\x00\x00\xff\x00\x00\x00"))
	holdNone(t, "fewer drives than told", []byte("\x05\x00\x00\x00\x00\x00\x00\x00\x00\x00\x00\x00\x00\xff"))
	holdNone(t, "fewer bytes of a key than told", []byte("\x05\x00\x00\x00\x00\x00\x00\x00\x00\x10key\x00\x00\x00"))
	b := bytesOf(api.Rec{Kind: api.RecAll, Objects: []api.Object{{Stripes: make([]api.Stripe, 255)}}})
	b[len(b)-2] = 255
	holdNone(t, "fewer Locs than told", b)
}

// unlike are records of which each differs from full by one thing.
func unlike() []api.Rec {
	var list []api.Rec
	change := func(do func(r *api.Rec)) {
		r := full()
		do(&r)
		list = append(list, r)
	}
	r := full()
	change(func(r *api.Rec) { r.Kind = api.RecPut })
	for at := range numbersIn(&r) {
		change(func(r *api.Rec) { *numbersIn(r)[at] += 100 })
		change(func(r *api.Rec) { *numbersIn(r)[at] = -1 })
	}
	for at := range keysIn(&r) {
		change(func(r *api.Rec) { *keysIn(r)[at] += "\x00" })
		change(func(r *api.Rec) { *keysIn(r)[at] = "" })
	}
	for at := range drivesIn(&r) {
		of := func(r *api.Rec) *[]int { return drivesIn(r)[at] }
		change(func(r *api.Rec) { *of(r) = nil })
		change(func(r *api.Rec) { *of(r) = (*of(r))[1:] })
		change(func(r *api.Rec) { *of(r) = (*of(r))[:len(*of(r))-1] })
		change(func(r *api.Rec) { *of(r) = append(*of(r), 0) })
		change(func(r *api.Rec) { slices.Reverse(*of(r)) })
	}
	for at := range stripesIn(&r) {
		of := func(r *api.Rec) *[]api.Stripe { return stripesIn(r)[at] }
		change(func(r *api.Rec) { *of(r) = nil })
		change(func(r *api.Rec) { *of(r) = (*of(r))[1:] })
		change(func(r *api.Rec) { *of(r) = (*of(r))[:1] })
		change(func(r *api.Rec) { *of(r) = append(*of(r), api.Stripe{}) })
		change(func(r *api.Rec) { slices.Reverse(*of(r)) })
	}
	change(func(r *api.Rec) { r.Objects = nil })
	change(func(r *api.Rec) { r.Objects = r.Objects[1:] })
	change(func(r *api.Rec) { r.Objects = r.Objects[:1] })
	change(func(r *api.Rec) { r.Objects = append(r.Objects, api.Object{}) })
	change(func(r *api.Rec) { slices.Reverse(r.Objects) })
	// The same numbers, but in other lists.
	change(func(r *api.Rec) { r.Drives, r.Stripes[0].Locs = r.Stripes[0].Locs, r.Drives })
	change(func(r *api.Rec) { r.Stripes, r.Objects[0].Stripes = r.Objects[0].Stripes, r.Stripes })
	change(func(r *api.Rec) { r.ID, r.Size = r.Size, r.ID })
	return list
}

func TestSame(t *testing.T) {
	list := append(unlike(), full())
	for n, a := range list {
		for m, b := range list {
			if got := Same(a, clone(b)); got != (n == m) {
				t.Errorf("Same(%v, %v) = %v", a, b, got)
			}
		}
	}
	// Records that do not fit are the same as themselves, too.
	for _, r := range []api.Rec{{}, {Kind: -1, ID: math.MinInt, Size: math.MaxInt, Key: strings.Repeat("k", 1000)}, {Drives: make([]int, 300)}, sized(700000)} {
		if !Same(r, clone(r)) {
			t.Errorf("Same of a record of Kind %d and itself: false", r.Kind)
		}
		other := clone(r)
		if other.Drives = append(other.Drives, 1); Same(r, other) || Same(other, r) {
			t.Errorf("Same of a record of Kind %d and one with a drive more: true", r.Kind)
		}
	}
	if large := sized(700000); !Same(large, sized(700000)) {
		t.Error("Same of two large records: false")
	} else if large.Objects[len(large.Objects)-1].Size++; Same(large, sized(700000)) {
		t.Error("Same of two large records, whose last objects are unlike: true")
	}
}

// Nil and empty lists are the same, at each place.
func TestEmpty(t *testing.T) {
	nils := api.Rec{Kind: api.RecAll, Stripes: make([]api.Stripe, 2), Objects: []api.Object{{}, {Stripes: make([]api.Stripe, 2)}}}
	empty := clone(nils)
	for _, drives := range drivesIn(&empty) {
		*drives = []int{}
	}
	empty.Objects[0].Stripes = []api.Stripe{}
	none := api.Rec{Kind: api.RecAll, Stripes: []api.Stripe{}, Objects: []api.Object{}, Drives: []int{}}
	for _, pair := range [][2]api.Rec{{nils, empty}, {none, {Kind: api.RecAll}}} {
		if !Same(pair[0], pair[1]) || !Same(pair[1], pair[0]) {
			t.Errorf("%v and %v are not the same", pair[0], pair[1])
		}
		holdRec(t, pair[0])
		holdRec(t, pair[1])
	}
}

// roomy is r, and behind each of its lists there is room, with something in it, that the record does not have.
func roomy(r api.Rec) api.Rec {
	r = clone(r)
	for _, stripes := range stripesIn(&r) {
		*stripes = append(*stripes, api.Stripe{ID: 77, Epoch: 78, Locs: []int{79}})
		*stripes = (*stripes)[:len(*stripes)-1]
	}
	for _, drives := range drivesIn(&r) {
		*drives = append(*drives, 81, 82, 83)
		*drives = (*drives)[:len(*drives)-3]
	}
	r.Objects = append(r.Objects, api.Object{Key: "room", ID: 84})
	r.Objects = r.Objects[:len(r.Objects)-1]
	return r
}

// wholeStripes is list with all that is in the room behind it, and behind its Locs.
func wholeStripes(list []api.Stripe) []api.Stripe {
	list = slices.Clone(list[:cap(list)])
	for n := range list {
		list[n].Locs = slices.Clone(list[n].Locs[:cap(list[n].Locs)])
	}
	return list
}

// whole is r with all that is in the room behind its lists, in memory of its own.
func whole(r api.Rec) api.Rec {
	r.Stripes = wholeStripes(r.Stripes)
	r.Objects = slices.Clone(r.Objects[:cap(r.Objects)])
	for n := range r.Objects {
		r.Objects[n].Stripes = wholeStripes(r.Objects[n].Stripes)
	}
	r.Drives = slices.Clone(r.Drives[:cap(r.Drives)])
	return r
}

// What Encode and Same are handed is not changed, spare room included; two answers share nothing.
func TestMemoryEncode(t *testing.T) {
	for _, r := range some() {
		handed := roomy(r)
		was := bytesOf(whole(handed))
		first, _ := Encode(handed)
		second, _ := Encode(handed)
		Same(handed, handed)
		if !bytes.Equal(bytesOf(whole(handed)), was) {
			t.Errorf("Encode or Same changed %v, or the room behind its lists", r)
		}
		clear(first[:cap(first)])
		if !bytes.Equal(second, bytesOf(r)) {
			t.Errorf("two answers of Encode(%v) share memory", r)
		}
		for _, n := range numbersIn(&handed) {
			*n = 9999
		}
		if !bytes.Equal(second, bytesOf(r)) {
			t.Errorf("what Encode(%v) answers goes with its argument", r)
		}
	}
}

// spoil writes over all memory that r has, room behind its lists included.
func spoil(r api.Rec) {
	for n := range r.Objects {
		o := &r.Objects[n]
		spoil(api.Rec{Stripes: o.Stripes})
	}
	for _, s := range r.Stripes {
		spoil(api.Rec{Drives: s.Locs})
	}
	fill(r.Objects[:cap(r.Objects)], api.Object{Key: "spoilt", ID: 91})
	fill(r.Stripes[:cap(r.Stripes)], api.Stripe{ID: 92})
	fill(r.Drives[:cap(r.Drives)], 93)
}

func fill[T any](list []T, x T) {
	for n := range list {
		list[n] = x
	}
}

// What Decode is handed is not changed, nor shared by what it answers.
func TestMemoryDecode(t *testing.T) {
	for _, r := range some() {
		b := append(bytesOf(r), "room behind it"...)
		was := slices.Clone(b)
		handed := b[:len(b)-len("room behind it")]
		first, _ := Decode(handed)
		second, _ := Decode(handed)
		if !bytes.Equal(b, was) {
			t.Errorf("Decode changed the bytes of %v, or the room behind them", r)
		}
		clear(b)
		spoil(first)
		if !bytes.Equal(b, make([]byte, len(b))) || !bytes.Equal(bytesOf(second), bytesOf(r)) {
			t.Errorf("what Decode answers for %v shares memory", r)
		}
		holdNone(t, "bytes that are spoilt", handed)
	}
}

// No two lists of one answer share memory.
func TestMemoryLists(t *testing.T) {
	for _, r := range some() {
		answer, _ := Decode(bytesOf(r))
		for _, list := range drivesIn(&answer) {
			fill((*list)[len(*list):cap(*list)], 94)
		}
		for _, list := range stripesIn(&answer) {
			fill((*list)[len(*list):cap(*list)], api.Stripe{ID: 95})
		}
		if !bytes.Equal(bytesOf(answer), bytesOf(r)) {
			t.Errorf("what Decode answers for %v has lists in the room behind others", r)
		}
		for at := range drivesIn(&answer) {
			want := clone(answer)
			fill(*drivesIn(&answer)[at], 96)
			fill(*drivesIn(&want)[at], 96)
			if !bytes.Equal(bytesOf(answer), bytesOf(want)) {
				t.Errorf("drives %d of what Decode answers for %v stand in another list, too", at, r)
			}
		}
	}
}

// Refused calls change nothing of what they are handed, either.
func TestMemoryRefused(t *testing.T) {
	r := roomy(full())
	r.Drives[2] = -1
	was := bytesOf(whole(r))
	holdRefused(t, "a number that does not fit", r, api.ErrForm)
	if !bytes.Equal(bytesOf(whole(r)), was) {
		t.Error("Encode changed a record that does not fit")
	}
	b := append(bytesOf(full()), 0)
	handed := slices.Clone(b)
	holdNone(t, "a byte too many", handed)
	if !bytes.Equal(handed, b) {
		t.Error("Decode changed bytes that are no record")
	}
}

// Answers hang on what is handed in alone, however many calls there are at the same time.
func TestManyAtOnce(t *testing.T) {
	list := some()
	var calls sync.WaitGroup
	for worker := range 8 {
		calls.Go(func() {
			for n := range list {
				r := list[(n+worker*7)%len(list)]
				b, e := Encode(r)
				back, be := Decode(b)
				if e != api.OK || be != api.OK || !bytes.Equal(b, bytesOf(r)) || !Same(back, r) {
					t.Errorf("at the same time as others: Encode(%v) = %v, %d, Decode of it %v, %d", r, b, e, back, be)
				}
			}
		})
	}
	calls.Wait()
}
