package table

import (
	"math"
	"slices"
	"strings"
	"testing"

	"flitting/api"
	"flitting/rec"
)

// both is a table and its model, of which each is told the same.
type both struct {
	*testing.T
	table *Table
	model *model
}

func start(t *testing.T, k, m int) *both {
	return &both{t, New(k, m), modelOf(k, m)}
}

// apply applies r to both, and holds what is answered, and what there is then.
func (x *both) apply(r api.Rec, want api.Errno) {
	x.Helper()
	if e := x.model.apply(r); e != want {
		x.Fatalf("the model's Apply(%v) = %d, want %d", r, e, want)
	}
	if e := x.table.Apply(r); e != want {
		x.Fatalf("Apply(%v) = %d, want %d", r, e, want)
	}
	x.model.hold(x.T, x.table)
	if x.Failed() {
		x.Fatalf("behind Apply(%v)", r)
	}
}

func (x *both) ok(list ...api.Rec) {
	x.Helper()
	for _, r := range list {
		x.apply(r, api.OK)
	}
}

func (x *both) refused(list ...api.Rec) {
	x.Helper()
	for _, r := range list {
		x.apply(r, api.ErrForm)
	}
}

// object is one that is right, in stripes at drives 0 to k + m - 1.
func object(k, m int, key string, id, size int) api.Object {
	o := api.Object{Key: key, ID: id, Size: size}
	for n := 0; n*k*api.ShardLen < size; n++ {
		s := api.Stripe{ID: 16*id + n, Epoch: 1}
		for drive := range k + m {
			s.Locs = append(s.Locs, drive)
		}
		o.Stripes = append(o.Stripes, s)
	}
	return o
}

func putOf(o api.Object) api.Rec {
	return api.Rec{Kind: api.RecPut, Key: o.Key, ID: o.ID, Size: o.Size, Stripes: o.Stripes}
}

func put(k, m int, key string, id, size int) api.Rec {
	return putOf(object(k, m, key, id, size))
}

func del(key string, id int) api.Rec {
	return api.Rec{Kind: api.RecDel, Key: key, ID: id}
}

func move(id, epoch int, locs ...int) api.Rec {
	return api.Rec{Kind: api.RecMove, Stripes: []api.Stripe{{ID: id, Epoch: epoch, Locs: locs}}}
}

func pool(epoch int, states ...int) api.Rec {
	return api.Rec{Kind: api.RecPool, ID: epoch, Drives: states}
}

func all(last, epoch int, states []int, list ...api.Object) api.Rec {
	return api.Rec{Kind: api.RecAll, ID: last, Size: epoch, Objects: list, Drives: states}
}

// far are numbers at the ends of int, and of what stands in fewer bits.
func far() []int {
	return []int{math.MinInt64, math.MinInt64 + 1, -1 << 32, -1 << 31, 1 << 31, 1 << 32, 1<<32 + 1, 1<<32 + 2, math.MaxInt64 - 1, math.MaxInt64}
}

// The document's example.
func TestExample(t *testing.T) {
	x := New(2, 1)
	if e := x.Apply(put(2, 1, "key", 1, 20)); e != api.OK {
		t.Fatal(e)
	}
	if e := x.Apply(del("key", 2)); e != api.OK {
		t.Fatal(e)
	}
	o, is := x.Object("key")
	s, has := x.Stripe(16)
	if is || has || !sameObject(o, api.Object{}) || !sameStripe(s, api.Stripe{}) || len(x.Keys())+len(x.Stripes()) != 0 {
		t.Errorf("%v %v %v %v", o, s, x.Keys(), x.Stripes())
	}
	if x.Last() != 2 || !rec.Same(x.All(), all(2, 0, nil)) {
		t.Errorf("%v", x.All())
	}
}

// What is told, literally.
func TestKnown(t *testing.T) {
	x := New(1, 1)
	list := []api.Rec{
		{Kind: 4, ID: 1, Drives: []int{1, 1}},
		{Kind: 4, ID: 2, Drives: []int{2, 1, 1}},
		{Kind: 1, Key: "b", ID: 1, Size: 9, Stripes: []api.Stripe{{ID: 16, Epoch: 2, Locs: []int{0, 1}}, {ID: 17, Epoch: 1, Locs: []int{1, 0}}}},
		{Kind: 1, Key: "a", ID: 5, Size: 8, Stripes: []api.Stripe{{ID: 80, Epoch: 2, Locs: []int{2, 1}}}},
		{Kind: 3, Stripes: []api.Stripe{{ID: 17, Epoch: 2, Locs: []int{1, 2}}}},
		{Kind: 1, Key: "c", ID: 3},
	}
	for _, r := range list {
		if e := x.Apply(r); e != api.OK {
			t.Fatalf("Apply(%v) = %d", r, e)
		}
	}
	b := api.Object{Key: "b", ID: 1, Size: 9, Stripes: []api.Stripe{{ID: 16, Epoch: 2, Locs: []int{0, 1}}, {ID: 17, Epoch: 2, Locs: []int{1, 2}}}}
	a := api.Object{Key: "a", ID: 5, Size: 8, Stripes: []api.Stripe{{ID: 80, Epoch: 2, Locs: []int{2, 1}}}}
	if o, ok := x.Object("b"); !ok || !sameObject(o, b) {
		t.Errorf("Object = %v, %v", o, ok)
	}
	if s, ok := x.Stripe(17); !ok || !sameStripe(s, b.Stripes[1]) {
		t.Errorf("Stripe = %v, %v", s, ok)
	}
	if keys := x.Keys(); !slices.Equal(keys, []string{"a", "b", "c"}) {
		t.Errorf("Keys = %q", keys)
	}
	if list := x.Stripes(); !sameStripes(list, append(b.Stripes, a.Stripes...)) {
		t.Errorf("Stripes = %v", list)
	}
	if states := x.States(); !slices.Equal(states, []int{2, 1, 1}) || x.Epoch() != 2 || x.Last() != 5 {
		t.Errorf("%v %d %d", states, x.Epoch(), x.Last())
	}
	want := api.Rec{Kind: 5, ID: 5, Size: 2, Objects: []api.Object{a, b, {Key: "c", ID: 3}}, Drives: []int{2, 1, 1}}
	if r := x.All(); !rec.Same(r, want) {
		t.Errorf("All = %v", r)
	}
}

// A table of nothing; and of k and m the ends beyond.
func TestNew(t *testing.T) {
	numbers := append(far(), -2, -1, 0, 1, 2, 3, 4, 5, 6)
	for _, k := range numbers {
		for _, m := range numbers {
			x := start(t, k, m)
			x.model.hold(t, x.table)
			for rk := 1; rk <= 4; rk++ {
				for rm := range 4 {
					list := []api.Rec{put(rk, rm, "key", 1, 96), all(1, 0, nil, object(rk, rm, "key", 1, 96))}
					if rk == x.model.k && rm == x.model.m {
						x.ok(list...)
					} else {
						x.refused(list...)
					}
				}
			}
		}
	}
}

// A Table that New did not make does as New(0, 0).
func TestNoNew(t *testing.T) {
	x := &both{t, &Table{}, modelOf(0, 0)}
	x.model.hold(t, x.table)
	x.refused(del("key", 1), move(16, 1, 0), put(2, 0, "key", 1, 96), put(1, 1, "key", 1, 96))
	x.ok(put(1, 0, "key", 1, 96), move(27, 2, 7), pool(1, 1), del("key", 2), all(3, 3, nil, object(1, 0, "a", 3, 9)))
	x = &both{t, new(Table), modelOf(0, 0)}
	x.ok(all(3, 3, nil, object(1, 0, "a", 3, 9)), put(1, 0, "key", 4, 5))
}

func TestNil(t *testing.T) {
	var x *Table
	for kind := -1; kind < 7; kind++ {
		for _, r := range []api.Rec{{Kind: kind}, {Kind: kind, ID: 1, Key: "key"}} {
			if e := x.Apply(r); e != api.ErrForm {
				t.Errorf("Apply(%v) = %d", r, e)
			}
		}
	}
	for _, key := range append(someKeys(), "") {
		if o, ok := x.Object(key); ok || !sameObject(o, api.Object{}) {
			t.Errorf("Object(%q) = %v, %v", key, o, ok)
		}
	}
	for _, id := range append(far(), -16, -1, 0, 1, 16) {
		if s, ok := x.Stripe(id); ok || !sameStripe(s, api.Stripe{}) {
			t.Errorf("Stripe(%d) = %v, %v", id, s, ok)
		}
	}
	if len(x.Keys()) != 0 || len(x.Stripes()) != 0 || len(x.States()) != 0 || x.Epoch() != 0 || x.Last() != 0 {
		t.Error("a nil table has something")
	}
	if r := x.All(); !rec.Same(r, api.Rec{}) {
		t.Errorf("All = %v", r)
	}
}

// of applies a record with o to new tables, by each of the kinds that bring objects, and holds whether it is right.
func of(t *testing.T, k, m int, o api.Object, right bool) {
	t.Helper()
	want := api.OK
	if !right {
		want = api.ErrForm
	}
	start(t, k, m).apply(putOf(o), want)
	start(t, k, m).apply(all(1<<25, 1, []int{1}, o), want)
}

// codes goes through all k and m that there are.
func codes(yield func(k, m int) bool) {
	for k := 1; k <= api.MaxK; k++ {
		for m := 0; m <= api.MaxM; m++ {
			if !yield(k, m) {
				return
			}
		}
	}
}

// How many stripes an object of each size has.
func TestSizes(t *testing.T) {
	for k, m := range codes {
		for size := -1; size <= 100; size++ {
			for count := range 15 {
				o := object(k, m, "key", 7, 8*k*count)
				o.Size = size
				// There are just so many that all but the last are full.
				right := size >= 0 && size <= api.MaxData && 8*k*count >= size && 8*k*(count-1) < size
				of(t, k, m, o, right)
			}
		}
		for _, size := range append(far(), -2, -96, -8*k, -8*k+1) {
			o := object(k, m, "key", 7, 0)
			o.Size = size
			of(t, k, m, o, false)
		}
	}
}

func TestKeyEnds(t *testing.T) {
	for size := range 300 {
		for _, one := range []string{"k", "\x00", "\xff"} {
			key := strings.Repeat(one, size)
			of(t, 2, 1, object(2, 1, key, 7, 20), size >= 1 && size <= 16)
			of(t, 2, 1, object(2, 1, key, 7, 0), size >= 1 && size <= 16)
		}
	}
	// Bytes are counted, not runes.
	of(t, 2, 1, object(2, 1, strings.Repeat("ä", 8), 7, 20), true)
	of(t, 2, 1, object(2, 1, strings.Repeat("ä", 9), 7, 20), false)
	of(t, 2, 1, object(2, 1, strings.Repeat("\U0001f69a", 5), 7, 20), false)
}

func TestIDEnds(t *testing.T) {
	for _, id := range append(far(), -1<<25, -16, -2, -1, 0, 1, 2, 1<<25-1, 1<<25, 1<<25+1, 1<<25+2, 1<<26, 1<<28, 1<<29, 1<<30, 1<<30+1) {
		right := id >= 1 && id <= 1<<25
		of(t, 2, 1, object(2, 1, "key", id, 20), right)
		of(t, 2, 1, object(2, 1, "key", id, 0), right)
	}
}

// The IDs of an object's stripes.
func TestStripeIDs(t *testing.T) {
	for _, id := range []int{1, 2, 3, 1000, 1<<25 - 1, 1 << 25} {
		for n := range 3 {
			for _, other := range append(far(), -1, 0, id, id+n, 16*id-1, 16*id, 16*id+1, 16*id+2, 16*id+3, 16*id+16, 16*id-16, -16*id-n, 16*id+n+1<<32) {
				o := object(2, 1, "key", id, 40)
				o.Stripes[n].ID = other
				of(t, 2, 1, o, other == 16*id+n)
			}
		}
		o := object(2, 1, "key", id, 40)
		o.Stripes[0], o.Stripes[2] = o.Stripes[2], o.Stripes[0]
		of(t, 2, 1, o, false)
		o = object(2, 1, "key", id, 40)
		o.ID++
		of(t, 2, 1, o, false)
	}
}

// stripe holds whether s is right, as the last one of an object, and as one that it is moved to.
func stripe(t *testing.T, k, m int, s api.Stripe, right bool) {
	t.Helper()
	o := object(k, m, "key", 7, 8*k+1)
	s.ID = 16*7 + 1
	o.Stripes[1] = s
	of(t, k, m, o, right)
	x := start(t, k, m)
	x.ok(put(k, m, "key", 7, 8*k+1))
	if r := (api.Rec{Kind: api.RecMove, Stripes: []api.Stripe{s}}); right {
		x.ok(r)
	} else {
		x.refused(r)
	}
}

func TestEpochEnds(t *testing.T) {
	for k, m := range codes {
		for _, epoch := range append(far(), -1<<30, -2, -1, 0, 1, 2, 1<<30-1, 1<<30, 1<<30+1) {
			s := object(k, m, "key", 7, 1).Stripes[0]
			s.Epoch = epoch
			stripe(t, k, m, s, epoch >= 0 && epoch <= 1<<30)
		}
	}
}

// How many Locs a stripe has.
func TestLocsCount(t *testing.T) {
	for k, m := range codes {
		for count := range 16 {
			var s api.Stripe
			for drive := range count {
				s.Locs = append(s.Locs, drive)
			}
			stripe(t, k, m, s, count == k+m)
		}
		stripe(t, k, m, api.Stripe{Locs: make([]int, k+m)}, k+m == 1)
		stripe(t, k, m, api.Stripe{Locs: []int{}}, false)
	}
}

// Which drives a stripe may be on.
func TestLocsEnds(t *testing.T) {
	for k, m := range codes {
		for at := range k + m {
			for _, drive := range append(far(), -12, -2, -1, 0, 1, 2, 6, 7, 8, 10, 11, 12, 13, 15, 16, 63, 64, 65, 256, 1<<16+1) {
				var s api.Stripe
				for n := range k + m {
					s.Locs = append(s.Locs, 10-n)
				}
				right := drive >= 0 && drive <= 11
				for n, other := range s.Locs {
					right = right && (n == at || other != drive)
				}
				s.Locs[at] = drive
				stripe(t, k, m, s, right)
			}
		}
	}
}

// Two places are on one drive, whichever two.
func TestLocsEqual(t *testing.T) {
	for k, m := range codes {
		for a := range k + m {
			for b := range a {
				s := object(k, m, "key", 7, 1).Stripes[0]
				s.Locs[a] = s.Locs[b]
				stripe(t, k, m, s, false)
			}
		}
	}
}

// Each stripe of an object is to be right, not the first or the last alone.
func TestEachStripe(t *testing.T) {
	for n := range 12 {
		for what := range 4 {
			o := object(1, 2, "key", 7, 96)
			switch s := &o.Stripes[n]; what {
			case 0:
				s.Epoch = -1
			case 1:
				s.Locs[1] = s.Locs[0]
			case 2:
				s.ID++
			case 3:
				s.Locs = s.Locs[:2]
			}
			of(t, 1, 2, o, false)
			x := start(t, 1, 2)
			x.refused(all(9, 1, nil, object(1, 2, "a", 1, 96), o, object(1, 2, "z", 9, 96)))
		}
	}
}

// An ID is no object's: neither of the one that would be there no more, nor of another; one that was, and is none's now, may come again.
func TestPutID(t *testing.T) {
	x := start(t, 2, 1)
	x.ok(put(2, 1, "a", 5, 40), put(2, 1, "b", 9, 0))
	x.refused(put(2, 1, "a", 5, 40), put(2, 1, "b", 9, 0), put(2, 1, "b", 9, 5))
	x.refused(put(2, 1, "c", 5, 40), put(2, 1, "c", 9, 8), put(2, 1, "a", 9, 8), put(2, 1, "b", 5, 8))
	x.ok(put(2, 1, "a", 4, 8))
	x.ok(put(2, 1, "c", 5, 8))
	x.ok(del("b", 9))
	x.ok(put(2, 1, "c", 9, 8))
	x.ok(put(2, 1, "d", 5, 8))
	x.ok(put(2, 1, "d", 1<<25, 8))
	x.refused(put(2, 1, "e", 1<<25, 8), put(2, 1, "d", 1<<25, 8), put(2, 1, "d", 1<<25+1, 8))
	x.ok(put(2, 1, "d", 5, 8))
	x.ok(put(2, 1, "e", 1<<25, 0))
}

// It is there in the place of one with that key, of which nothing is left.
func TestPutInPlace(t *testing.T) {
	x := start(t, 1, 1)
	for n, size := range []int{96, 0, 1, 96, 8, 9, 0, 95} {
		x.ok(put(1, 1, "key", n+1, size))
		if keys := x.table.Keys(); len(keys) != 1 {
			t.Errorf("%q", keys)
		}
		if list := x.table.Stripes(); len(list) != (size+7)/8 {
			t.Errorf("%v", list)
		}
	}
	// Keys that are nearly the same are others.
	x.ok(put(1, 1, "key\x00", 20, 3), put(1, 1, "Key", 21, 3), put(1, 1, "ke", 22, 3), put(1, 1, "kez", 23, 3))
}

// Last goes up, and not down, but by a RecAll.
func TestLast(t *testing.T) {
	x := start(t, 1, 0)
	for _, c := range []struct {
		r    api.Rec
		want int
	}{
		{put(1, 0, "a", 3, 1), 3},
		{put(1, 0, "b", 2, 1), 3},
		{put(1, 0, "c", 7, 1), 7},
		{del("b", 5), 7},
		{del("c", 7), 7},
		{put(1, 0, "c", 7, 1), 7},
		{del("c", 8), 8},
		{put(1, 0, "c", 1<<25-1, 1), 1<<25 - 1},
		{del("c", 1), 1<<25 - 1},
		{del("a", 1<<25), 1 << 25},
		{put(1, 0, "a", 1, 1), 1 << 25},
		{move(16, 1, 3), 1 << 25},
		{pool(1, 1), 1 << 25},
		{all(4, 0, nil), 4},
		{all(0, 0, nil), 0},
		{all(9, 0, nil, object(1, 0, "a", 8, 1)), 9},
	} {
		x.ok(c.r)
		if got := x.table.Last(); got != c.want {
			t.Errorf("Last = %d, want %d, behind %v", got, c.want, c.r)
		}
	}
}

func TestDel(t *testing.T) {
	x := start(t, 1, 2)
	x.refused(del("a", 1), del("", 1))
	x.ok(put(1, 2, "a", 5, 30), put(1, 2, "b", 6, 30))
	x.refused(del("", 7), del("c", 7), del("aa", 7), del("A", 7), del("a\x00", 7))
	for _, id := range append(far(), -1<<25, -5, -1, 0, 1<<25+1, 1<<26, 1<<30) {
		x.refused(del("a", id))
	}
	// The ID may be any object's, its own included.
	x.ok(del("a", 5))
	x.refused(del("a", 7))
	for _, id := range []int{1, 2, 6, 7, 1<<25 - 1, 1 << 25} {
		x.ok(put(1, 2, "a", 5, 30), del("a", id))
	}
	x.ok(del("b", 6))
}

func TestMove(t *testing.T) {
	x := start(t, 1, 1)
	x.refused(move(16, 1, 0, 1), move(0, 1, 0, 1))
	x.ok(put(1, 1, "a", 5, 20), put(1, 1, "b", 6, 0), put(1, 1, "c", 1, 96), put(1, 1, "d", 1<<25, 96))
	for _, s := range x.table.Stripes() {
		x.ok(move(s.ID, 2, 11, 0))
		x.ok(move(s.ID, 0, 0, 11))
		x.ok(move(s.ID, 0, 0, 11))
	}
	for _, id := range append(far(), -80, -16, -1, 0, 5, 15, 28, 31, 79, 83, 84, 95, 96, 97, 112, 1<<29-1, 1<<29+12, 1<<29+16) {
		x.refused(move(id, 1, 0, 1))
	}
	x.ok(move(82, 3, 5, 6), del("a", 9))
	x.refused(move(80, 3, 5, 6), move(82, 3, 5, 6))
}

// A move has just one stripe.
func TestMoveCount(t *testing.T) {
	x := start(t, 1, 1)
	x.ok(put(1, 1, "a", 5, 20))
	one, two := move(80, 2, 3, 4).Stripes[0], move(81, 2, 3, 4).Stripes[0]
	for _, list := range [][]api.Stripe{nil, {}, {one, one}, {one, two}, {two, one}, {one, {}}, {{}, one}, {one, two, one}} {
		x.refused(api.Rec{Kind: api.RecMove, Stripes: list})
	}
	x.ok(api.Rec{Kind: api.RecMove, Stripes: []api.Stripe{one}})
}

func TestPool(t *testing.T) {
	x := start(t, 1, 1)
	for _, epoch := range append(far(), -1, 0, 2, 3, 1<<30, 1<<30+1) {
		x.refused(pool(epoch, 1, 1))
	}
	x.ok(pool(1))
	x.ok(pool(2, 1, 0, 2), pool(3, 0, 0, 0), pool(4, 2, 2, 2), pool(5, 2, 2, 2), pool(6, 1, 2, 2, 0))
	for _, epoch := range append(far(), -7, -1, 0, 1, 5, 6, 8, 1<<30, 1<<30+1, 7+1<<32) {
		x.refused(pool(epoch, 1, 1, 1, 1))
	}
	x.refused(pool(7), pool(7, 1), pool(7, 1, 1, 1))
	x.ok(pool(7, 1, 1, 1, 1))
}

// How many drives there may be, and in which states; by each of the kinds that bring them.
func TestDrives(t *testing.T) {
	for count := range 30 {
		for _, state := range append(far(), -3, -2, -1, 0, 1, 2, 3, 4, 5, 256, 1<<16+1) {
			for _, at := range []int{0, count / 2, count - 1} {
				states := slices.Repeat([]int{api.In}, count)
				right := count <= 12
				if count > 0 {
					states[at] = state
					right = right && state >= 0 && state <= 2
				}
				for _, r := range []api.Rec{pool(1, states...), all(0, 0, states)} {
					if x := start(t, 2, 2); right {
						x.ok(r)
					} else {
						x.refused(r)
					}
				}
			}
		}
	}
}

// A RecPool has as many drives as there were, or more; a RecAll has any number.
func TestFewerDrives(t *testing.T) {
	for had := range 13 {
		for has := range 13 {
			x := start(t, 2, 2)
			x.ok(pool(1, make([]int, had)...))
			if r := pool(2, slices.Repeat([]int{1}, has)...); has >= had {
				x.ok(r)
			} else {
				x.refused(r)
			}
			x.ok(all(0, 1, slices.Repeat([]int{2}, has)))
			if r := pool(2, slices.Repeat([]int{1}, had)...); had >= has {
				x.ok(r)
			} else {
				x.refused(r)
			}
		}
	}
}

// The last epoch is MaxID.
func TestLastEpoch(t *testing.T) {
	for _, epoch := range append(far(), -2, -1, 0, 1, 1<<25+1, 1<<30-2, 1<<30-1, 1<<30, 1<<30+1, 1<<30+2) {
		x := start(t, 2, 2)
		if epoch < 0 || epoch > 1<<30 {
			x.refused(all(0, epoch, nil))
			continue
		}
		x.ok(all(0, epoch, nil))
		x.refused(pool(epoch), pool(epoch+2), pool(epoch-1))
		if epoch == 1<<30 {
			x.refused(pool(epoch + 1))
		} else {
			x.ok(pool(epoch + 1))
		}
	}
}

// The last ID that a RecAll tells: no object has a greater one.
func TestAllID(t *testing.T) {
	for _, id := range append(far(), -1, 0, 1, 2, 1<<25-1, 1<<25, 1<<25+1, 1<<30, 1<<30+1) {
		right := id >= 0 && id <= 1<<25
		if x := start(t, 2, 2); right {
			x.ok(all(id, 0, nil))
		} else {
			x.refused(all(id, 0, nil))
		}
		for _, own := range []int{1, 2, id - 1, id, id + 1, 1 << 25} {
			for _, size := range []int{0, 33} {
				r := all(id, 0, nil, object(2, 2, "key", own, size))
				if x := start(t, 2, 2); right && own >= 1 && own <= id {
					x.ok(r)
				} else {
					x.refused(r)
				}
			}
		}
	}
}

// A RecAll's objects come by their keys, rising, and unlike.
func TestAllKeys(t *testing.T) {
	keys := append(someKeys(), "", "0123456789abcdefg")
	for _, a := range keys {
		for _, b := range keys {
			two := []api.Object{object(1, 0, a, 2, 9), object(1, 0, b, 1, 9)}
			low, high := object(1, 0, "\x00", 3, 0), object(1, 0, "\xff\xff\xff", 4, 0)
			right := a != "" && b != "" && len(a) <= 16 && len(b) <= 16 && a < b
			if x := start(t, 1, 0); right {
				x.ok(all(4, 0, nil, two...), all(4, 0, nil, two[0], two[1], high))
			} else {
				x.refused(all(4, 0, nil, two...), all(4, 0, nil, two[0], two[1], high))
			}
			if x := start(t, 1, 0); right && a != "\x00" {
				x.ok(all(4, 0, nil, low, two[0], two[1]))
			} else {
				x.refused(all(4, 0, nil, low, two[0], two[1]))
			}
		}
	}
}

// A RecAll's objects have unlike IDs, in whatever order, next to each other or not.
func TestAllIDs(t *testing.T) {
	for row := range 4 * 4 * 4 * 4 {
		ids := []int{1 + row%4, 1 + row/4%4, 1 + row/16%4, 1 + row/64}
		unlike := true
		var list []api.Object
		for n, id := range ids {
			unlike = unlike && !slices.Contains(ids[:n], id)
			list = append(list, object(4, 3, "abcd"[n:n+1], id, n%2*40))
		}
		if x := start(t, 4, 3); unlike {
			x.ok(all(4, 0, nil, list...))
		} else {
			x.refused(all(4, 0, nil, list...))
		}
	}
}

// All is as a RecAll tells: nothing is left of what was.
func TestAllIsSo(t *testing.T) {
	x := start(t, 2, 1)
	x.ok(pool(1, 1, 1, 1, 1), put(2, 1, "a", 8, 96), put(2, 1, "b", 9, 20), put(2, 1, "c", 10, 20))
	x.ok(all(5, 7, []int{2}, object(2, 1, "b", 4, 0), object(2, 1, "d", 5, 40)))
	x.ok(put(2, 1, "a", 8, 96), pool(8, 1))
	x.ok(all(0, 0, nil))
	x.ok(pool(1), put(2, 1, "a", 8, 96))
	// The same IDs with other keys, and the other way about.
	x.ok(all(9, 1, nil, object(2, 1, "A", 8, 20)), all(9, 1, nil, object(2, 1, "A", 9, 20)))
}

func TestKinds(t *testing.T) {
	x := start(t, 2, 1)
	x.ok(pool(1, 1, 1, 1), put(2, 1, "a", 1, 20))
	o := object(2, 1, "a", 2, 16)
	for _, kind := range append(far(), -5, -4, -3, -2, -1, 0, 6, 7, 8, 255, 256, 257, 258, 1<<16+1, 1<<32+3, 1<<32+4, 1<<32+5) {
		r := putOf(o)
		r.Kind, r.Drives = kind, []int{1, 1, 1}
		x.refused(r, api.Rec{Kind: kind}, api.Rec{Kind: kind, ID: 2, Drives: []int{1, 1, 1}})
		r.Stripes, r.Objects = move(16, 1, 0, 1, 2).Stripes, []api.Object{o}
		x.refused(r)
	}
}

// What else a record has does not count, whatever it is.
func TestElse(t *testing.T) {
	junk := api.Rec{
		ID: -77, Size: math.MaxInt64, Key: strings.Repeat("junk", 9), Drives: make([]int, 40),
		Stripes: []api.Stripe{{ID: -1, Epoch: -1, Locs: []int{-1, -1}}, {}},
		Objects: []api.Object{{ID: -1}, {Key: "x", Stripes: make([]api.Stripe, 3)}},
	}
	x := start(t, 2, 1)
	r := put(2, 1, "a", 3, 20)
	r.Objects, r.Drives = junk.Objects, junk.Drives
	x.ok(r)
	r = move(49, 4, 4, 3, 2)
	r.ID, r.Size, r.Key, r.Objects, r.Drives = junk.ID, junk.Size, junk.Key, junk.Objects, junk.Drives
	x.ok(r)
	r = pool(1, 1, 2)
	r.Size, r.Key, r.Stripes, r.Objects = junk.Size, junk.Key, junk.Stripes, junk.Objects
	x.ok(r)
	r = del("a", 9)
	r.Size, r.Stripes, r.Objects, r.Drives = junk.Size, junk.Stripes, junk.Objects, junk.Drives
	x.ok(r)
	r = all(3, 4, []int{1}, object(2, 1, "b", 3, 20))
	r.Key, r.Stripes = junk.Key, junk.Stripes
	x.ok(r)
	if got := x.table.All(); got.Key != "" || len(got.Stripes) != 0 {
		t.Errorf("All = %v", got)
	}
}

// Any records, most of them such as can be, and such with one thing that is wrong.
func TestAny(t *testing.T) {
	seed := seeded(1)
	done := map[api.Errno]int{}
	for range 400 {
		x := start(t, seed.below(6), seed.below(5)-1)
		for range 60 {
			r := seed.rec(x.model)
			for range seed.below(4) - 1 {
				r = seed.spoil(r)
			}
			want := x.model.told(r)
			done[want]++
			x.apply(r, want)
		}
	}
	if done[api.OK] < 8000 || done[api.ErrForm] < 4000 {
		t.Errorf("%v", done)
	}
}

// One thing of records that can be is wrong, each in turn.
func TestEachNumber(t *testing.T) {
	seed := seeded(2)
	for range 40 {
		x := start(t, 1+seed.below(4), seed.below(4))
		x.ok(seed.whole(x.model.k, x.model.m))
		for range 3 {
			r := seed.rec(x.model)
			for at, n := range numbersIn(&r) {
				for _, other := range wrongs(*n) {
					spoilt := copyOfRec(r)
					*numbersIn(&spoilt)[at] = other
					y := &both{t, New(x.model.k, x.model.m), modelOf(x.model.k, x.model.m)}
					y.table.Apply(x.table.All())
					y.model.apply(x.model.record())
					want := y.model.apply(spoilt)
					if e := y.table.Apply(spoilt); e != want || !rec.Same(y.table.All(), y.model.record()) {
						t.Fatalf("Apply(%v) = %d, want %d; %v, want %v", spoilt, e, want, y.table.All(), y.model.record())
					}
				}
			}
		}
	}
}

// All leads here, from nothing and from anything else, and as bytes, too.
func TestAllLeadsHere(t *testing.T) {
	seed := seeded(3)
	for range 300 {
		k, m := 1+seed.below(4), seed.below(4)
		x, y := start(t, k, m), start(t, k, m)
		for range seed.below(30) {
			for _, z := range []*both{x, y} {
				r := seed.rec(z.model)
				z.apply(r, z.model.told(r))
			}
		}
		x.ok(x.table.All())
		b, e := rec.Encode(x.table.All())
		r, de := rec.Decode(b)
		if e != api.OK || de != api.OK {
			t.Fatalf("%d, %d of %v", e, de, x.table.All())
		}
		y.ok(r)
		if !rec.Same(x.table.All(), y.table.All()) {
			t.Errorf("%v leads to %v", x.table.All(), y.table.All())
		}
	}
}

// Tables have nothing of each other, nor of what was done before them.
func TestMany(t *testing.T) {
	seed := seeded(4)
	list := []*both{start(t, 2, 1), start(t, 3, 2), start(t, 2, 1)}
	for range 300 {
		for _, x := range list {
			r := seed.rec(x.model)
			x.apply(r, x.model.told(r))
			for _, other := range list {
				other.model.hold(t, other.table)
			}
		}
	}
}

// Very many objects.
func TestManyObjects(t *testing.T) {
	x, y := New(4, 3), New(4, 3)
	for n := range 2000 {
		key := string([]byte{byte(1 + n%200), byte(n / 200)})
		if e := x.Apply(put(4, 3, key, 2000-n, 96)); e != api.OK {
			t.Fatal(e)
		}
	}
	keys, stripes := x.Keys(), x.Stripes()
	if len(keys) != 2000 || !slices.IsSorted(keys) || len(stripes) != 6000 || x.Last() != 2000 {
		t.Errorf("%d keys, %d stripes", len(keys), len(stripes))
	}
	for n, s := range stripes {
		if s.ID != 16*(1+n/3)+n%3 {
			t.Fatalf("stripe %d is %v", n, s)
		}
	}
	if e := y.Apply(x.All()); e != api.OK || !rec.Same(x.All(), y.All()) {
		t.Errorf("Apply = %d", e)
	}
}

// spoilInts changes each number of a list, and of its spare room.
func spoilInts(list []int) {
	for n := range list[:cap(list)] {
		list[:cap(list)][n] = 99
	}
}

func spoilStripes(list []api.Stripe) {
	for n := range list[:cap(list)] {
		spoilInts(list[:cap(list)][n].Locs)
		list[:cap(list)][n] = api.Stripe{ID: 99, Epoch: 99, Locs: []int{99}}
	}
}

func spoilRec(r api.Rec) {
	spoilStripes(r.Stripes)
	spoilInts(r.Drives)
	for n := range r.Objects[:cap(r.Objects)] {
		spoilStripes(r.Objects[:cap(r.Objects)][n].Stripes)
		r.Objects[:cap(r.Objects)][n] = api.Object{Key: "99", ID: 99, Size: 99}
	}
}

// spoilAnswers asks for all that there is, and changes what is answered.
func spoilAnswers(x *Table) {
	for _, key := range x.Keys() {
		o, _ := x.Object(key)
		spoilStripes(o.Stripes)
	}
	for _, s := range x.Stripes() {
		one, _ := x.Stripe(s.ID)
		spoilInts(one.Locs)
	}
	spoilStripes(x.Stripes())
	spoilInts(x.States())
	spoilRec(x.All())
	keys := x.Keys()
	for n := range keys[:cap(keys)] {
		keys[:cap(keys)][n] = "99"
	}
}

// roomy is a list with spare room, in which other things stand.
func roomy[T any](list []T, other T) []T {
	long := append(slices.Clone(list), other, other, other)
	return long[:len(list)]
}

// inRoom is r with spare room behind each list.
func inRoom(r api.Rec) api.Rec {
	stripes := func(list []api.Stripe) []api.Stripe {
		list = roomy(list, api.Stripe{ID: 77, Locs: []int{77}})
		for n := range list {
			list[n].Locs = roomy(list[n].Locs, 77)
		}
		return list
	}
	r = copyOfRec(r)
	r.Stripes, r.Drives = stripes(r.Stripes), roomy(r.Drives, 77)
	r.Objects = roomy(r.Objects, api.Object{Key: "77", ID: 77})
	for n := range r.Objects {
		r.Objects[n].Stripes = stripes(r.Objects[n].Stripes)
	}
	return r
}

// wide is r with its lists' spare room as far as they go, so that this can be held, too.
func wide(r api.Rec) api.Rec {
	stripes := func(list []api.Stripe) []api.Stripe {
		list = slices.Clone(list[:cap(list)])
		for n, s := range list {
			list[n].Locs = s.Locs[:cap(s.Locs)]
		}
		return list
	}
	r.Stripes, r.Drives = stripes(r.Stripes), r.Drives[:cap(r.Drives)]
	r.Objects = slices.Clone(r.Objects[:cap(r.Objects)])
	for n, o := range r.Objects {
		r.Objects[n].Stripes = stripes(o.Stripes)
	}
	return r
}

// What is handed in is not changed, its spare room included, and not kept; what is answered shares nothing with it, or with another answer, or with what is kept.
func TestMemory(t *testing.T) {
	seed := seeded(5)
	for range 100 {
		x := start(t, 1+seed.below(4), seed.below(4))
		for range 40 {
			r := seed.rec(x.model)
			if seed.below(4) == 0 {
				r = seed.spoil(r)
			}
			given := inRoom(r)
			was := copyOfRec(wide(given))
			x.apply(given, x.model.told(given))
			if !rec.Same(was, wide(given)) {
				t.Fatalf("%v was handed in, and is %v", was, wide(given))
			}
			spoilRec(given)
			x.model.hold(t, x.table)
			spoilAnswers(x.table)
			x.model.hold(t, x.table)
			if t.Failed() {
				t.Fatalf("behind %v", r)
			}
		}
	}
}

// No two lists of one answer share any.
func TestListsApart(t *testing.T) {
	x := New(2, 2)
	x.Apply(put(2, 2, "a", 1, 96))
	x.Apply(put(2, 2, "b", 2, 96))
	o, _ := x.Object("a")
	hold := func(list []api.Stripe) {
		t.Helper()
		want := copyOfStripes(list)
		for n := range list {
			spoilInts(list[n].Locs)
			list[n].Locs = want[n].Locs
			if !sameStripes(list, want) {
				t.Fatalf("a stripe shares what stripe %d has", n)
			}
		}
	}
	hold(o.Stripes)
	hold(x.Stripes())
	r := x.All()
	hold(append(r.Objects[0].Stripes, r.Objects[1].Stripes...))
}

// What one record brings by one list that stands in it twice is two lists then.
func TestGivenTwice(t *testing.T) {
	o := object(1, 1, "key", 1, 16)
	o.Stripes[1].Locs = o.Stripes[0].Locs
	x := start(t, 1, 1)
	x.ok(putOf(o), move(16, 2, 5, 6), move(17, 2, 7, 8))
	s := x.table.Stripes()
	spoilInts(s[0].Locs)
	if !slices.Equal(s[1].Locs, []int{7, 8}) {
		t.Error(s)
	}
	x.ok(all(1, 1, nil, o), move(17, 2, 5, 6))
}
