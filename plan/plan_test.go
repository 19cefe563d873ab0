package plan

import (
	"math"
	"slices"
	"strconv"
	"testing"

	"flitting/api"
	"flitting/pool"
	"flitting/slot"
	"flitting/table"
)

func apply(t *testing.T, x *table.Table, r api.Rec) {
	t.Helper()
	if e := x.Apply(r); e != api.OK {
		t.Fatalf("Apply(%v) = %d", r, e)
	}
}

// enter begins the next epoch.
func enter(t *testing.T, x *table.Table, states []int) {
	t.Helper()
	apply(t, x, api.Rec{Kind: api.RecPool, ID: x.Epoch() + 1, Drives: states})
}

// newTable is a table of no objects.
func newTable(t *testing.T, k, m int, states []int) *table.Table {
	t.Helper()
	x := table.New(k, m)
	enter(t, x, states)
	return x
}

func stripeAt(id int, locs ...int) api.Stripe {
	return api.Stripe{ID: id, Epoch: 1, Locs: locs}
}

// keyOf is the key of a version's object: keys fall where versions rise.
func keyOf(version int) string {
	return strconv.Itoa(1<<29 - version)
}

// put has an object there whose stripes are at all these.
func put(t *testing.T, x *table.Table, k, version int, all ...[]int) {
	t.Helper()
	r := api.Rec{Kind: api.RecPut, Key: keyOf(version), ID: version, Size: len(all) * k * api.ShardLen}
	for n, locs := range all {
		r.Stripes = append(r.Stripes, stripeAt(16*version+n, locs...))
	}
	apply(t, x, r)
}

func move(t *testing.T, x *table.Table, id int, locs ...int) {
	t.Helper()
	apply(t, x, api.Rec{Kind: api.RecMove, Stripes: []api.Stripe{stripeAt(id, locs...)}})
}

// in is so many drives that are In.
func in(many int) []int {
	return slices.Repeat([]int{api.In}, many)
}

// drives is a pool of so many drives, of so many slots each.
func drives(t *testing.T, many, slots int) *pool.Pool {
	t.Helper()
	p := pool.New()
	for range many {
		if _, e := p.Add(slots); e != api.OK {
			t.Fatalf("Add(%d) = %d", slots, e)
		}
	}
	return p
}

func store(t *testing.T, p *pool.Pool, list ...shardAt) {
	t.Helper()
	for _, x := range list {
		if e := p.Store(x.drive, x.stripe, x.pos, []byte("a shard")); e != api.OK {
			t.Fatalf("Store of %v = %d", x, e)
		}
	}
}

func erase(t *testing.T, p *pool.Pool, n, stripe, pos int) {
	t.Helper()
	if e := p.Erase(n, stripe, pos); e != api.OK {
		t.Fatalf("Erase(%d, %d, %d) = %d", n, stripe, pos, e)
	}
}

// direct writes to a slot without the pool.
func direct(t *testing.T, p *pool.Pool, n, at int, b []byte) {
	t.Helper()
	if e := p.Drive(n).Write(at, b); e != api.OK {
		t.Fatalf("a drive's Write(%d) = %d", at, e)
	}
}

func holdTarget(t *testing.T, x *table.Table, id, n int, want []int, wantOK bool) {
	t.Helper()
	got, ok := Target(x, id, n)
	if ok != wantOK || !slices.Equal(got, want) || !ok && got != nil {
		t.Errorf("Target(%d, %d) = %v, %v, want %v, %v", id, n, got, ok, want, wantOK)
	}
}

func holdWrong(t *testing.T, x *table.Table, n int, want []int) {
	t.Helper()
	if got := Wrong(x, n); !slices.Equal(got, want) {
		t.Errorf("Wrong(%d) = %v, want %v, of stripes %v, drives %v", n, got, want, x.Stripes(), x.States())
	}
}

func holdStray(t *testing.T, p *pool.Pool, x *table.Table, keep []api.Stripe, want shardAt, wantOK bool) {
	t.Helper()
	n, stripe, pos, ok := Stray(p, x, keep)
	if got := (shardAt{n, stripe, pos}); got != want || ok != wantOK {
		t.Errorf("Stray(keep %v) = %v, %v, want %v, %v", keep, got, ok, want, wantOK)
	}
}

func holdNoStray(t *testing.T, p *pool.Pool, x *table.Table, keep ...api.Stripe) {
	t.Helper()
	holdStray(t, p, x, keep, shardAt{}, false)
}

// far are numbers at the ends of int, and of what stands in fewer bits.
func far() []int {
	return []int{math.MinInt64, -1 << 32, -16, -1, 1 << 8, 1 << 30, 1 << 32, 1<<32 + 16, math.MaxInt64}
}

// The document's example: what is at its targets is not wrong, and no shard of it astray.
func TestExample(t *testing.T) {
	x, p := newTable(t, 2, 1, in(12)), drives(t, 12, 4)
	put(t, x, 2, 1, []int{6, 8, 3}, []int{3, 9, 4})
	for _, s := range x.Stripes() {
		for pos, n := range s.Locs {
			store(t, p, shardAt{n, s.ID, pos})
		}
	}
	holdWrong(t, x, 3, nil)
	holdNoStray(t, p, x)
}

// The nearest drives to stripe 16 are 6, 8, 3, 2, 7, 5, 10, 0, 1, 9, 4, 11; to stripe 17 they are 3, 9, 4, 0, 1, 7, 6, 8, 2, 10, 5, 11.
func TestTargetKnown(t *testing.T) {
	x := newTable(t, 2, 1, in(12))
	put(t, x, 2, 1, []int{0, 1, 2}, []int{0, 1, 2})
	holdTarget(t, x, 16, 3, []int{6, 8, 3}, true)
	holdTarget(t, x, 17, 3, []int{3, 9, 4}, true)
	holdTarget(t, x, 16, 1, []int{6}, true)
	holdTarget(t, x, 16, 0, nil, true)
	holdTarget(t, x, 16, 12, []int{6, 8, 3, 2, 7, 5, 10, 0, 1, 9, 4, 11}, true)
	holdTarget(t, x, 16, 13, nil, false)
	holdTarget(t, x, 16, -1, nil, false)
	enter(t, x, []int{1, 1, 1, 1, 1, 1, api.Draining, 1, api.Gone, 1, 1, 1})
	holdTarget(t, x, 16, 3, []int{3, 2, 7}, true)
	holdTarget(t, x, 17, 3, []int{3, 9, 4}, true)
	holdTarget(t, x, 16, 10, []int{3, 2, 7, 5, 10, 0, 1, 9, 4, 11}, true)
	holdTarget(t, x, 16, 11, nil, false)
	// Where a stripe is does not count.
	move(t, x, 16, 3, 2, 7)
	holdTarget(t, x, 16, 3, []int{3, 2, 7}, true)
}

// Of a stripe that there is not there is no Target, whatever n.
func TestTargetNoStripe(t *testing.T) {
	x := newTable(t, 2, 1, in(5))
	put(t, x, 2, 1)
	put(t, x, 2, 2, []int{0, 1, 2})
	put(t, x, 2, 3, []int{0, 1, 2}, []int{0, 1, 2})
	there := []int{32, 48, 49}
	for id := range 80 {
		_, ok := Target(x, id, 3)
		if ok != slices.Contains(there, id) {
			t.Errorf("Target(%d, 3): %v", id, ok)
		}
		if ok {
			holdTarget(t, x, id, 0, nil, true)
			continue
		}
		for _, n := range []int{-1, 0, 1, 5, 6} {
			holdTarget(t, x, id, n, nil, false)
		}
	}
	for _, id := range append(far(), -32, -48, 1<<32+32, 1<<32+48, math.MinInt64+32) {
		for _, n := range []int{0, 1, 3} {
			holdTarget(t, x, id, n, nil, false)
		}
	}
	apply(t, x, api.Rec{Kind: api.RecDel, Key: keyOf(3), ID: 4})
	holdTarget(t, x, 48, 3, nil, false)
	holdTarget(t, x, 49, 0, nil, false)
	if _, ok := Target(x, 32, 3); !ok {
		t.Error("Target(32, 3): none")
	}
}

func TestTargetEnds(t *testing.T) {
	x := newTable(t, 1, 0, in(3))
	put(t, x, 1, 1<<25, []int{0})
	for _, n := range append(far(), math.MinInt64+3, math.MaxInt64-1, 1<<32+3, 4) {
		holdTarget(t, x, 1<<29, n, nil, false)
		holdWrong(t, x, n, nil)
	}
	at, _ := nearest(1<<29, in(3), 3)
	holdTarget(t, x, 1<<29, 3, at, true)
	holdTarget(t, x, 1<<29, 2, at[:2], true)
}

// Wrong has what is elsewhere, or at the same drives in another order, by their IDs, whatever their keys.
func TestWrongKnown(t *testing.T) {
	x := newTable(t, 2, 1, in(12))
	put(t, x, 2, 3, []int{0, 1, 2}, []int{2, 1, 0})
	put(t, x, 2, 1, []int{6, 8, 3}, []int{4, 3, 9}, []int{0, 1, 2})
	put(t, x, 2, 2, []int{0, 1, 2})
	holdWrong(t, x, 3, []int{17, 18, 32, 48, 49})
	move(t, x, 17, 3, 9, 4)
	holdWrong(t, x, 3, []int{18, 32, 48, 49})
	move(t, x, 16, 6, 3, 8)
	holdWrong(t, x, 3, []int{16, 18, 32, 48, 49})
	move(t, x, 16, 6, 8, 2)
	holdWrong(t, x, 3, []int{16, 18, 32, 48, 49})
	move(t, x, 16, 5, 8, 3)
	holdWrong(t, x, 3, []int{16, 18, 32, 48, 49})
	move(t, x, 16, 6, 8, 3)
	apply(t, x, api.Rec{Kind: api.RecDel, Key: keyOf(3), ID: 4})
	holdWrong(t, x, 3, []int{18, 32})
	// Another epoch, other targets: drive 9 is not near any more.
	enter(t, x, []int{1, 1, 1, 1, 1, 1, 1, 1, 1, api.Draining, 1, 1})
	holdWrong(t, x, 3, []int{17, 18, 32})
	enter(t, x, in(12))
	holdWrong(t, x, 3, []int{18, 32})
}

// A stripe's epoch does not count, at its Target or elsewhere.
func TestWrongEpoch(t *testing.T) {
	x := newTable(t, 2, 1, in(12))
	put(t, x, 2, 1, []int{6, 8, 3})
	for _, epoch := range []int{0, 1, 2, 7, api.MaxID} {
		apply(t, x, api.Rec{Kind: api.RecMove, Stripes: []api.Stripe{{ID: 16, Epoch: epoch, Locs: []int{6, 8, 3}}}})
		holdWrong(t, x, 3, nil)
		apply(t, x, api.Rec{Kind: api.RecMove, Stripes: []api.Stripe{{ID: 16, Epoch: epoch, Locs: []int{6, 8, 4}}}})
		holdWrong(t, x, 3, []int{16})
	}
}

// Of too few drives no stripe has a Target, and none is wrong; of another n than stripes have places, all have another one.
func TestWrongCounts(t *testing.T) {
	x := newTable(t, 2, 1, in(12))
	put(t, x, 2, 1, []int{6, 8, 3}, []int{0, 1, 2})
	holdWrong(t, x, -1, nil)
	holdWrong(t, x, 0, []int{16, 17})
	holdWrong(t, x, 2, []int{16, 17})
	holdWrong(t, x, 3, []int{17})
	holdWrong(t, x, 4, []int{16, 17})
	holdWrong(t, x, 12, []int{16, 17})
	holdWrong(t, x, 13, nil)
	enter(t, x, []int{0, 0, 0, 1, 2, 2, 1, 2, 2, 0, 2, 2})
	holdWrong(t, x, 2, []int{16, 17})
	holdWrong(t, x, 3, nil)
	enter(t, x, make([]int, 12))
	holdWrong(t, x, 1, nil)
	holdWrong(t, x, 0, []int{16, 17})
}

// A stripe is at any drives, also at such as the table does not know.
func TestWrongNoDrives(t *testing.T) {
	x := table.New(1, 1)
	put(t, x, 1, 1, []int{6, 8})
	holdWrong(t, x, 2, nil)
	holdWrong(t, x, 0, []int{16})
	holdTarget(t, x, 16, 2, nil, false)
	holdTarget(t, x, 16, 0, nil, true)
	enter(t, x, in(5))
	holdWrong(t, x, 2, []int{16})
	enter(t, x, in(9))
	holdWrong(t, x, 2, nil)
}

func TestNil(t *testing.T) {
	p := drives(t, 2, 2)
	for _, x := range []*table.Table{nil, {}, table.New(0, 0)} {
		for _, n := range append(far(), 0, 1, 2) {
			holdWrong(t, x, n, nil)
			holdTarget(t, x, 16, n, nil, false)
			holdTarget(t, x, 0, n, nil, false)
		}
		for _, none := range []*pool.Pool{nil, {}, pool.New(), p} {
			holdNoStray(t, none, x)
			holdNoStray(t, none, x, api.Stripe{}, stripeAt(16, 0, 1))
		}
	}
	store(t, p, shardAt{1, 0, 0})
	holdStray(t, p, nil, nil, shardAt{1, 0, 0}, true)
	holdStray(t, p, nil, []api.Stripe{{}}, shardAt{1, 0, 0}, true)
	holdNoStray(t, p, nil, stripeAt(0, 1))
}

// All single shards near two stripes of a table and two that are kept: just those at their places belong there.
func TestStrayOne(t *testing.T) {
	x := newTable(t, 1, 1, in(4))
	put(t, x, 1, 1, []int{0, 1}, []int{2, 0})
	keep := []api.Stripe{stripeAt(18, 1, 3), stripeAt(16, 3, 2)}
	right := []shardAt{{0, 16, 0}, {1, 16, 1}, {2, 17, 0}, {0, 17, 1}}
	more := []shardAt{{1, 18, 0}, {3, 18, 1}, {3, 16, 0}, {2, 16, 1}}
	for n := range 4 {
		for id := 14; id < 21; id++ {
			for pos := range 4 {
				p, is := drives(t, 4, 1), shardAt{n, id, pos}
				store(t, p, is)
				holdOne(t, p, x, nil, is, slices.Contains(right, is))
				holdOne(t, p, x, keep, is, slices.Contains(right, is) || slices.Contains(more, is))
				holdOne(t, p, x, keep[:1], is, slices.Contains(right, is) || slices.Contains(more[:2], is))
			}
		}
	}
}

// holdOne holds that the one shard there belongs there, or is astray.
func holdOne(t *testing.T, p *pool.Pool, x *table.Table, keep []api.Stripe, is shardAt, belongs bool) {
	t.Helper()
	if belongs {
		holdStray(t, p, x, keep, shardAt{}, false)
	} else {
		holdStray(t, p, x, keep, is, true)
	}
}

// The least drive is told, and of it the first slot, whatever stripes and places are there.
func TestStrayFirst(t *testing.T) {
	x, p := newTable(t, 2, 1, in(4)), drives(t, 4, 5)
	put(t, x, 2, 1, []int{1, 3, 2})
	store(t, p, shardAt{1, 16, 0}, shardAt{3, 16, 1}, shardAt{2, 16, 2})
	holdNoStray(t, p, x)
	store(t, p, shardAt{3, 0, 0})
	holdStray(t, p, x, nil, shardAt{3, 0, 0}, true)
	store(t, p, shardAt{2, 99, 7}, shardAt{2, 98, 9}, shardAt{2, 98, 6})
	holdStray(t, p, x, nil, shardAt{2, 99, 7}, true)
	erase(t, p, 2, 99, 7)
	holdStray(t, p, x, nil, shardAt{2, 98, 9}, true)
	store(t, p, shardAt{2, 100, 255})
	holdStray(t, p, x, nil, shardAt{2, 100, 255}, true)
	erase(t, p, 2, 98, 9)
	erase(t, p, 2, 100, 255)
	holdStray(t, p, x, nil, shardAt{2, 98, 6}, true)
	erase(t, p, 2, 98, 6)
	holdStray(t, p, x, nil, shardAt{3, 0, 0}, true)
	store(t, p, shardAt{0, 16, 0})
	holdStray(t, p, x, nil, shardAt{0, 16, 0}, true)
	store(t, p, shardAt{1, 200, 0})
	holdStray(t, p, x, []api.Stripe{stripeAt(16, 0)}, shardAt{1, 200, 0}, true)
}

// When the stripe is moved, what is at its old places is astray, and what is at its new ones is not.
func TestStrayMoved(t *testing.T) {
	x, p := newTable(t, 1, 1, in(4)), drives(t, 4, 2)
	put(t, x, 1, 1, []int{0, 1})
	store(t, p, shardAt{0, 16, 0}, shardAt{1, 16, 1}, shardAt{2, 16, 0})
	holdStray(t, p, x, nil, shardAt{2, 16, 0}, true)
	move(t, x, 16, 2, 1)
	holdStray(t, p, x, nil, shardAt{0, 16, 0}, true)
	holdNoStray(t, p, x, stripeAt(16, 0, 1))
	erase(t, p, 0, 16, 0)
	holdNoStray(t, p, x)
	apply(t, x, api.Rec{Kind: api.RecDel, Key: keyOf(1), ID: 2})
	holdStray(t, p, x, nil, shardAt{1, 16, 1}, true)
	holdStray(t, p, x, []api.Stripe{stripeAt(16, 0, 1)}, shardAt{2, 16, 0}, true)
}

// A drive that is lost has nothing: the next one's is told.
func TestStrayLost(t *testing.T) {
	x, p := newTable(t, 1, 0, in(4)), drives(t, 4, 2)
	store(t, p, shardAt{0, 5, 0}, shardAt{1, 6, 0}, shardAt{3, 7, 0})
	holdStray(t, p, x, nil, shardAt{0, 5, 0}, true)
	p.Drive(0).Lose()
	holdStray(t, p, x, nil, shardAt{1, 6, 0}, true)
	p.Drive(1).Lose()
	p.Drive(2).Lose()
	holdStray(t, p, x, nil, shardAt{3, 7, 0}, true)
	p.Drive(3).Lose()
	holdNoStray(t, p, x)
}

// What a drive has counts, whatever its state, also if the table does not know it, and also what is loose.
func TestStrayStates(t *testing.T) {
	for _, states := range [][]int{nil, {}, {1}, {0, 0, 0}, {2, 2, 2}, {1, 2, 0}, in(12)} {
		x, p := newTable(t, 1, 1, states), drives(t, 3, 3)
		put(t, x, 1, 1, []int{2, 0})
		store(t, p, shardAt{2, 16, 0}, shardAt{0, 16, 1})
		holdNoStray(t, p, x)
		store(t, p, shardAt{2, 16, 1})
		holdStray(t, p, x, nil, shardAt{2, 16, 1}, true)
	}
}

func TestStrayLoose(t *testing.T) {
	x, p := newTable(t, 1, 0, in(2)), drives(t, 2, 2)
	store(t, p, shardAt{1, 16, 0})
	holdStray(t, p, x, nil, shardAt{1, 16, 0}, true)
	p.Crash(0)
	holdNoStray(t, p, x)
	store(t, p, shardAt{1, 16, 0})
	p.Flush(1)
	erase(t, p, 1, 16, 0)
	holdNoStray(t, p, x)
	p.Crash(0)
	p.Fuse(0)
	for range 3 {
		holdStray(t, p, x, nil, shardAt{1, 16, 0}, true)
	}
	if e := p.Flush(1); e != api.ErrDown {
		t.Fatalf("Flush = %d, want ErrDown", e)
	}
	holdStray(t, p, x, nil, shardAt{1, 16, 0}, true)
}

// Bytes that are no shard are not astray; shards of any number are.
func TestStrayBytes(t *testing.T) {
	x, p := newTable(t, 1, 0, in(1)), drives(t, 1, 6)
	bad := slot.Frame(16, 0, []byte("a shard"))
	bad[3] ^= 1
	direct(t, p, 0, 0, bad)
	direct(t, p, 0, 1, []byte("no shard of anything"))
	direct(t, p, 0, 2, bad[1:])
	holdNoStray(t, p, x)
	direct(t, p, 0, 5, slot.Frame(math.MaxUint32, 255, nil))
	holdStray(t, p, x, nil, shardAt{0, math.MaxUint32, 255}, true)
	holdStray(t, p, x, []api.Stripe{stripeAt(-1, make([]int, 256)...)}, shardAt{0, math.MaxUint32, 255}, true)
	holdNoStray(t, p, x, stripeAt(math.MaxUint32, make([]int, 256)...))
	direct(t, p, 0, 4, slot.Frame(api.MaxID, 7, make([]byte, 50)))
	holdStray(t, p, x, nil, shardAt{0, api.MaxID, 7}, true)
	direct(t, p, 0, 3, slot.Frame(0, 0, nil))
	holdStray(t, p, x, nil, shardAt{}, true)
}

// A shard that is in two slots is at its place in both, or astray in both.
func TestStrayTwice(t *testing.T) {
	x, p := newTable(t, 1, 0, in(2)), drives(t, 2, 4)
	put(t, x, 1, 1, []int{1})
	for at := range 3 {
		direct(t, p, 1, at, slot.Frame(16, 0, []byte{byte(at)}))
	}
	holdNoStray(t, p, x)
	apply(t, x, api.Rec{Kind: api.RecDel, Key: keyOf(1), ID: 2})
	for range 3 {
		holdStray(t, p, x, nil, shardAt{1, 16, 0}, true)
		erase(t, p, 1, 16, 0)
	}
	holdNoStray(t, p, x)
}

// What is kept may be any stripes: not right ones, several of one ID, of any numbers, of any epoch, of too few or too many places.
func TestStrayKeep(t *testing.T) {
	x, p := newTable(t, 2, 1, in(3)), drives(t, 3, 4)
	is := shardAt{2, 32, 3}
	store(t, p, is)
	for _, s := range []api.Stripe{
		{}, stripeAt(32), stripeAt(32, 2), stripeAt(32, 2, 2, 2), stripeAt(32, 2, 2, 2, 1), stripeAt(32, 2, 2, 2, 1, 2),
		stripeAt(31, 2, 2, 2, 2), stripeAt(33, 2, 2, 2, 2), stripeAt(-32, 2, 2, 2, 2), stripeAt(0, 2, 2, 2, 2),
		stripeAt(32+1<<32, 2, 2, 2, 2), stripeAt(32-1<<32, 2, 2, 2, 2), stripeAt(math.MinInt64+32, 2, 2, 2, 2),
		stripeAt(32, 2, 2, 2, 2+1<<32), stripeAt(32, 2, 2, 2, -2), stripeAt(32, 2, 2, 2, 2+1<<8), stripeAt(32, 2, 2, 2, math.MinInt64+2),
		stripeAt(2, 32, 32, 32, 32), stripeAt(3, 2, 32, 2, 32),
		stripeAt(32, append(append([]int{0, 0, 0, 0}, make([]int, 252)...), 2, 2, 2, 2, 2)...),
	} {
		holdStray(t, p, x, []api.Stripe{s}, is, true)
		holdStray(t, p, x, []api.Stripe{s, s}, is, true)
		holdNoStray(t, p, x, s, stripeAt(32, 0, 0, 0, 2))
		holdNoStray(t, p, x, api.Stripe{ID: 32, Epoch: -7, Locs: []int{2, 2, 2, 2, 9, 9}}, s)
		holdNoStray(t, p, x, s, api.Stripe{ID: 32, Epoch: math.MaxInt64, Locs: append([]int{-1, 99, math.MinInt64, 2}, make([]int, 300)...)}, s)
	}
	store(t, p, shardAt{0, 32, 0}, shardAt{1, 32, 0})
	keep := []api.Stripe{stripeAt(32, 0), stripeAt(32, 1), stripeAt(32, 5, 5, 5, 2)}
	holdNoStray(t, p, x, keep...)
	holdStray(t, p, x, keep[1:], shardAt{0, 32, 0}, true)
	holdStray(t, p, x, keep[:1], shardAt{1, 32, 0}, true)
	holdStray(t, p, x, keep[:2], is, true)
}

// All drives, slots and places that there may be.
func TestStrayFull(t *testing.T) {
	x, p := newTable(t, 1, 0, in(12)), drives(t, 12, api.MaxCap)
	var all []api.Stripe
	for id := range 6 {
		s := api.Stripe{ID: id}
		for pos := range 256 {
			n := (id*256 + pos) / 128
			store(t, p, shardAt{n, id, pos})
			s.Locs = append(s.Locs, n)
		}
		all = append(all, s)
	}
	holdNoStray(t, p, x, all...)
	for _, is := range []shardAt{{0, 0, 0}, {0, 0, 127}, {1, 0, 128}, {1, 0, 255}, {2, 1, 0}, {11, 5, 128}, {11, 5, 255}} {
		all[is.stripe].Locs[is.pos]--
		holdStray(t, p, x, all, is, true)
		all[is.stripe].Locs[is.pos] += 2
		holdStray(t, p, x, all, is, true)
		all[is.stripe].Locs[is.pos]--
	}
}
