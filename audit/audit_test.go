package audit

import (
	"bytes"
	"fmt"
	"math"
	"slices"
	"testing"

	"flitting/api"
	"flitting/pool"
	"flitting/rs"
	"flitting/slot"
	"flitting/table"
)

// far are numbers at the ends of int, and of what stands in fewer bits.
func far() []int {
	return []int{math.MinInt64, math.MinInt64 + 3, -1 << 32, -1, 1 << 8, 1 << 30, 1 << 32, 1<<32 + 3, math.MaxInt64 - 1, math.MaxInt64}
}

func apply(t *testing.T, x *table.Table, r api.Rec) {
	t.Helper()
	if e := x.Apply(r); e != api.OK {
		t.Fatalf("Apply(%v) = %d", r, e)
	}
}

// enter begins the next epoch.
func enter(t *testing.T, x *table.Table, states ...int) {
	t.Helper()
	apply(t, x, api.Rec{Kind: api.RecPool, ID: x.Epoch() + 1, Drives: states})
}

// in is so many drives that are In.
func in(many int) []int {
	return slices.Repeat([]int{api.In}, many)
}

// newTable is a table of no objects.
func newTable(t *testing.T, k, m int, states ...int) *table.Table {
	t.Helper()
	x := table.New(k, m)
	enter(t, x, states...)
	return x
}

func stripeAt(id int, locs ...int) api.Stripe {
	return api.Stripe{ID: id, Epoch: 1, Locs: locs}
}

// keyOf is the key of a version's object: keys fall where versions rise.
func keyOf(version int) string {
	return fmt.Sprint(1<<29 - version)
}

// put has an object there whose stripes are at all these.
func put(t *testing.T, x *table.Table, k, version int, all ...[]int) {
	t.Helper()
	r := api.Rec{Kind: api.RecPut, Key: keyOf(version), ID: version, Size: len(all) * k * api.ShardLen}
	for n, locs := range all {
		r.Stripes = append(r.Stripes, stripeAt(16*version+n, locs...))
	}
	apply(t, x, r)
}

func move(t *testing.T, x *table.Table, id int, locs ...int) {
	t.Helper()
	apply(t, x, api.Rec{Kind: api.RecMove, Stripes: []api.Stripe{stripeAt(id, locs...)}})
}

// drives is a pool of so many drives, of so many slots each.
func drives(t *testing.T, many, slots int) *pool.Pool {
	t.Helper()
	p := pool.New()
	for range many {
		if _, e := p.Add(slots); e != api.OK {
			t.Fatalf("Add(%d) = %d", slots, e)
		}
	}
	return p
}

// loose stores a shard that is not flushed.
func loose(t *testing.T, p *pool.Pool, n, stripe, pos int, b []byte) {
	t.Helper()
	if e := p.Store(n, stripe, pos, b); e != api.OK {
		t.Fatalf("Store(%d, %d, %d) = %d", n, stripe, pos, e)
	}
}

func flush(t *testing.T, p *pool.Pool, n int) {
	t.Helper()
	if e := p.Flush(n); e != api.OK {
		t.Fatalf("Flush(%d) = %d", n, e)
	}
}

// flushed stores a shard that lasts.
func flushed(t *testing.T, p *pool.Pool, n, stripe, pos int, b []byte) {
	t.Helper()
	loose(t, p, n, stripe, pos, b)
	flush(t, p, n)
}

// erase takes a shard away, for good.
func erase(t *testing.T, p *pool.Pool, n, stripe, pos int) {
	t.Helper()
	if e := p.Erase(n, stripe, pos); e != api.OK {
		t.Fatalf("Erase(%d, %d, %d) = %d", n, stripe, pos, e)
	}
	flush(t, p, n)
}

// direct writes to a slot without the pool, to last.
func direct(t *testing.T, p *pool.Pool, n, at int, b []byte) {
	t.Helper()
	if e := p.Drive(n).Write(at, b); e != api.OK {
		t.Fatalf("a drive's Write(%d) = %d", at, e)
	}
	flush(t, p, n)
}

// dataOf is some data of a stripe, unlike that of others.
func dataOf(k, id int) []byte {
	data := make([]byte, k*api.ShardLen)
	for at := range data {
		data[at] = byte(3 + 7*id + 31*at)
	}
	return data
}

// shardsOf is the shards of that data.
func shardsOf(t *testing.T, k, m, id int) [][]byte {
	t.Helper()
	shards, e := rs.Encode(k, m, dataOf(k, id))
	if e != api.OK {
		t.Fatalf("Encode(%d, %d) = %d", k, m, e)
	}
	return shards
}

// lay stores the shards of all stripes that there are where they should be, to last.
func lay(t *testing.T, p *pool.Pool, x *table.Table, k, m int) {
	t.Helper()
	for _, s := range x.Stripes() {
		for pos, b := range shardsOf(t, k, m, s.ID) {
			flushed(t, p, s.Locs[pos], s.ID, pos, b)
		}
	}
}

// one is a table with one stripe of two shards and one more, 16, at drives 2, 0, 1 of four, and a pool that has it.
func one(t *testing.T) (*pool.Pool, *table.Table) {
	t.Helper()
	p, x := drives(t, 4, 4), newTable(t, 2, 1, in(4)...)
	put(t, x, 2, 1, []int{2, 0, 1})
	lay(t, p, x, 2, 1)
	holdSafe(t, true, p, x, 2, 1)
	return p, x
}

// eachCode goes through all codes that there are.
func eachCode(do func(k, m int)) {
	for k := 1; k <= api.MaxK; k++ {
		for m := range api.MaxM + 1 {
			do(k, m)
		}
	}
}

func holdSafe(t *testing.T, want bool, p *pool.Pool, x *table.Table, k, m int) {
	t.Helper()
	if got := Safe(p, x, k, m); got != want {
		t.Errorf("Safe(%d, %d) = %v, of stripes %v, drives %v", k, m, got, x.Stripes(), x.States())
	}
}

func holdPlaced(t *testing.T, want bool, x *table.Table, n int) {
	t.Helper()
	if got := Placed(x, n); got != want {
		t.Errorf("Placed(%d) = %v, of stripes %v, drives %v", n, got, x.Stripes(), x.States())
	}
}

func holdClean(t *testing.T, want bool, p *pool.Pool, x *table.Table) {
	t.Helper()
	if got := Clean(p, x); got != want {
		t.Errorf("Clean = %v, of stripes %v", got, x.Stripes())
	}
}

func holdMargin(t *testing.T, want int, p *pool.Pool, s api.Stripe, k int) {
	t.Helper()
	if got := Margin(p, s, k); got != want {
		t.Errorf("Margin(%v, %d) = %d, want %d", s, k, got, want)
	}
}

// The document's example: nothing is there, and all is well, whatever is asked.
func TestExample(t *testing.T) {
	counts := append(far(), -3, -2, 0, 1, 2, 3, 4, 5, 7, 12, 13)
	for _, x := range []*table.Table{nil, {}, table.New(0, 0), table.New(4, 3), newTable(t, 2, 1, in(12)...), newTable(t, 2, 1, 0, 0, 2)} {
		for _, p := range []*pool.Pool{nil, {}, pool.New(), drives(t, 3, 3), drives(t, 12, 0)} {
			for _, k := range counts {
				for _, m := range counts {
					holdSafe(t, true, p, x, k, m)
				}
				holdPlaced(t, true, x, k)
				holdMargin(t, -k, p, api.Stripe{}, k)
				holdMargin(t, -k, p, stripeAt(16, 0, 1, 2), k)
			}
			holdClean(t, true, p, x)
		}
	}
}

// An object without data has no stripes, and needs nothing.
func TestNoStripes(t *testing.T) {
	x := newTable(t, 2, 1, 0, 0, 0)
	put(t, x, 2, 1)
	for _, p := range []*pool.Pool{nil, pool.New(), drives(t, 3, 3)} {
		holdSafe(t, true, p, x, 2, 1)
		holdSafe(t, true, p, x, 0, 0)
		holdClean(t, true, p, x)
	}
	holdPlaced(t, true, x, 3)
	holdPlaced(t, true, x, 0)
}

// Shards that are known, byte by byte: of two rows of data the third is 142 times the first and 244 times the second.
func TestSafeKnown(t *testing.T) {
	p, x := drives(t, 3, 1), newTable(t, 2, 1, in(3)...)
	put(t, x, 2, 1, []int{2, 0, 1})
	rows := [][]byte{
		{1, 0, 0, 2, 3, 0, 0, 255},
		{0, 1, 0, 0, 0, 2, 0, 0},
		{142, 244, 0, 1, 143, 245, 0, times(142, 255)},
	}
	for pos, n := range []int{2, 0, 1} {
		holdSafe(t, false, p, x, 2, 1)
		flushed(t, p, n, 16, pos, rows[pos])
	}
	holdSafe(t, true, p, x, 2, 1)
	rows[2][2] = 1
	flushed(t, p, 1, 16, 2, rows[2])
	holdSafe(t, false, p, x, 2, 1)
	rows[0][2] = 2
	rows[2][2] = 1
	flushed(t, p, 2, 16, 0, rows[0])
	holdSafe(t, true, p, x, 2, 1)
}

// All codes: all shards are needed, also those that reading does not need.
func TestSafeCodes(t *testing.T) {
	eachCode(func(k, m int) {
		states := in(12)
		p, x := drives(t, 12, 8), newTable(t, k, m, states...)
		locs := []int{11, 3, 0, 7, 5, 1, 8}[:k+m]
		put(t, x, k, 1, locs)
		put(t, x, k, 1<<25, slices.Repeat([][]int{locs}, 3)...)
		holdSafe(t, false, p, x, k, m)
		lay(t, p, x, k, m)
		holdSafe(t, true, p, x, k, m)
		for _, s := range x.Stripes() {
			for pos, n := range s.Locs {
				erase(t, p, n, s.ID, pos)
				holdSafe(t, false, p, x, k, m)
				flushed(t, p, n, s.ID, pos, shardsOf(t, k, m, s.ID)[pos])
				holdSafe(t, true, p, x, k, m)
			}
		}
	})
}

// A stripe that has not k + m Locs is not safe; as many, but of another code, are mostly no row of that, unless m is 0, and any will do.
func TestSafeCounts(t *testing.T) {
	eachCode(func(k, m int) {
		p, x := drives(t, 7, 4), newTable(t, k, m, in(7)...)
		put(t, x, k, 1, []int{6, 5, 4, 3, 2, 1, 0}[:k+m])
		lay(t, p, x, k, m)
		counts := append(far(), -4, -3, -2, 0, 1, 2, 3, 4, 5, 6, 7, 8)
		for _, k2 := range counts {
			for _, m2 := range append(counts, k+m-k2) {
				same := k2 == k && m2 == m
				all := k2 == k+m && m2 == 0 && k2 <= api.MaxK
				// The shards of 1 and 3 are a row of 3 and 1, too: in that the fourth is that of the first.
				both := k == 1 && m == 3 && k2 == 3 && m2 == 1
				holdSafe(t, same || all || both, p, x, k2, m2)
			}
		}
		// Noughts are a row of noughts in all codes.
		for pos, n := range x.Stripes()[0].Locs {
			flushed(t, p, n, 16, pos, make([]byte, 8))
		}
		for _, k2 := range counts {
			for _, m2 := range append(counts, k+m-k2) {
				code := k2 >= 1 && k2 <= api.MaxK && m2 >= 0 && m2 <= api.MaxM
				holdSafe(t, code && k2+m2 == k+m, p, x, k2, m2)
			}
		}
	})
}

// No table has a stripe with a drive twice; it would not be safe.
func TestUnlike(t *testing.T) {
	for _, locs := range [][]int{nil, {0}, {-1}, {0, 1}, {1, 0, 2}, {math.MinInt64, math.MaxInt64, 0, -1, 1 << 32}, {6, 5, 4, 3, 2, 1, 0}, {0, 7, 8, 12, 16, 24, 256, 1 << 40}} {
		if !unlike(locs) {
			t.Errorf("unlike(%v) = false", locs)
		}
		for _, n := range locs {
			for at := range len(locs) + 1 {
				if twice := slices.Insert(slices.Clone(locs), at, n); unlike(twice) {
					t.Errorf("unlike(%v) = true", twice)
				}
			}
		}
	}
}

// No table has a stripe at a drive below 0, or above the greatest one; nobody knows its state.
func TestStay(t *testing.T) {
	for _, n := range append(far(), 3, 12) {
		for _, locs := range [][]int{{n}, {0, n}, {n, 2}, {0, 2, n}} {
			if stay([]int{api.In, api.Gone, api.Draining}, locs) {
				t.Errorf("stay(%v) = true", locs)
			}
		}
	}
	if !stay([]int{api.In, api.Gone, api.Draining}, []int{2, 0}) || stay([]int{api.In, api.Gone, api.Draining}, []int{2, 1}) || !stay(nil, nil) {
		t.Error("of drives that are known")
	}
}

// Neither no shards, nor any of no code, are a row.
func TestRowNone(t *testing.T) {
	b := make([]byte, 8)
	for _, k := range append(far(), -2, 0, 1, 2, 3, 4, 5, 7) {
		for _, m := range append(far(), -2, 0, 1, 2, 3, 4, 7, -k) {
			if row(k, m, nil) || row(k, m, [][]byte{}) || row(k, m, make([][]byte, 2)) || row(k, m, [][]byte{b, nil}) {
				t.Errorf("row(%d, %d) of nothing", k, m)
			}
			is := k == 1 && m == 1 || k == 2 && m == 0
			if row(k, m, [][]byte{b, b}) != is {
				t.Errorf("row(%d, %d) = %v", k, m, !is)
			}
		}
	}
}

// A drive may be In, or Draining, but not Gone; those that have nothing of a stripe may be anything.
func TestSafeStates(t *testing.T) {
	p, x := one(t)
	for all := range 3 * 3 * 3 * 3 {
		states := []int{all % 3, all / 3 % 3, all / 9 % 3, all / 27}
		enter(t, x, states...)
		holdSafe(t, !slices.Contains(states[:3], api.Gone), p, x, 2, 1)
	}
}

// A drive that the table does not know is Gone.
func TestSafeUnknown(t *testing.T) {
	for known := range 5 {
		p, x := drives(t, 4, 4), table.New(2, 1)
		put(t, x, 2, 1, []int{3, 0, 1})
		lay(t, p, x, 2, 1)
		holdSafe(t, false, p, x, 2, 1)
		enter(t, x, in(known)...)
		holdSafe(t, known == 4, p, x, 2, 1)
		enter(t, x, 1, 1, 2, 1, 0, 0, 0)
		holdSafe(t, true, p, x, 2, 1)
	}
}

// A drive that is lost has nothing, also where fewer shards would do.
func TestSafeLost(t *testing.T) {
	for n := range 4 {
		p, x := one(t)
		p.Drive(n).Lose()
		holdSafe(t, n == 3, p, x, 2, 1)
	}
}

// A drive that the pool does not have has nothing either.
func TestSafeNoDrive(t *testing.T) {
	for many := range 5 {
		p, x := drives(t, many, 4), newTable(t, 2, 1, in(12)...)
		put(t, x, 2, 1, []int{2, 0, 3})
		for pos, b := range shardsOf(t, 2, 1, 16) {
			if n := []int{2, 0, 3}[pos]; n < many {
				flushed(t, p, n, 16, pos, b)
			}
		}
		holdSafe(t, many == 4, p, x, 2, 1)
		move(t, x, 16, 2, 0, 11)
		holdSafe(t, false, p, x, 2, 1)
	}
}

// Of each place, whatever else is there in the stead of its shard is not that shard.
func TestSafeOthers(t *testing.T) {
	for pos, n := range []int{2, 0, 1} {
		b := shardsOf(t, 2, 1, 16)[pos]
		other, right := []byte("8 others"), slot.Frame(16, pos, b)
		bad := slices.Clone(right)
		bad[7] ^= 1
		for name, put := range map[string]func(p *pool.Pool){
			"nothing":        func(p *pool.Pool) {},
			"loose":          func(p *pool.Pool) { loose(t, p, n, 16, pos, b) },
			"another stripe": func(p *pool.Pool) { flushed(t, p, n, 17, pos, b) },
			"stripe 0":       func(p *pool.Pool) { flushed(t, p, n, 0, pos, b) },
			"next pos":       func(p *pool.Pool) { flushed(t, p, n, 16, pos+1, b) },
			"last pos":       func(p *pool.Pool) { flushed(t, p, n, 16, 255, b) },
			"other places":   func(p *pool.Pool) { flushed(t, p, n, 16, (pos+1)%3, b); flushed(t, p, n, 16, (pos+2)%3, b) },
			"another drive":  func(p *pool.Pool) { flushed(t, p, 3, 16, pos, b) },
			"other bytes":    func(p *pool.Pool) { flushed(t, p, n, 16, pos, other) },
			"nought bytes":   func(p *pool.Pool) { flushed(t, p, n, 16, pos, make([]byte, 8)) },
			"no bytes":       func(p *pool.Pool) { flushed(t, p, n, 16, pos, nil) },
			"too few bytes":  func(p *pool.Pool) { flushed(t, p, n, 16, pos, b[:7]) },
			"too many bytes": func(p *pool.Pool) { flushed(t, p, n, 16, pos, append(slices.Clone(b), 0)) },
			"two shards":     func(p *pool.Pool) { flushed(t, p, n, 16, pos, slices.Concat(b, b)) },
			"bare bytes":     func(p *pool.Pool) { direct(t, p, n, 0, b) },
			"a wrong sum":    func(p *pool.Pool) { direct(t, p, n, 0, bad) },
			"a cut frame":    func(p *pool.Pool) { direct(t, p, n, 0, right[:len(right)-1]) },
			"a long frame":   func(p *pool.Pool) { direct(t, p, n, 0, append(slices.Clone(right), 0)) },
		} {
			p, x := one(t)
			erase(t, p, n, 16, pos)
			put(p)
			if Safe(p, x, 2, 1) {
				t.Errorf("place %d, %s: Safe", pos, name)
			}
			p.Crash(0)
			flushed(t, p, n, 16, pos, b)
			holdSafe(t, true, p, x, 2, 1)
		}
	}
}

// A shard may stand in any slot, with any others ahead of it.
func TestSafeSlots(t *testing.T) {
	for at := range api.MaxCap {
		p, x := drives(t, 3, api.MaxCap), newTable(t, 2, 1, in(3)...)
		put(t, x, 2, 1, []int{2, 0, 1})
		for pos, b := range shardsOf(t, 2, 1, 16) {
			n := []int{2, 0, 1}[pos]
			for other := range min(at, 3*pos) {
				direct(t, p, n, other, slot.Frame(17+other, pos, b))
			}
			direct(t, p, n, (at+pos)%api.MaxCap, slot.Frame(16, pos, b))
		}
		holdSafe(t, true, p, x, 2, 1)
		direct(t, p, 0, (at+1)%api.MaxCap, nil)
		holdSafe(t, false, p, x, 2, 1)
	}
}

// What is loose does not count, whatever it is: a shard that is stored again, or erased, lasts as it was, till it is flushed.
func TestSafeAgain(t *testing.T) {
	for pos, n := range []int{2, 0, 1} {
		b, other := shardsOf(t, 2, 1, 16)[pos], []byte("8 others")
		p, x := one(t)
		loose(t, p, n, 16, pos, b)
		holdSafe(t, true, p, x, 2, 1)
		loose(t, p, n, 16, pos, other)
		holdSafe(t, true, p, x, 2, 1)
		p.Crash(0)
		holdSafe(t, true, p, x, 2, 1)
		loose(t, p, n, 16, pos, other)
		holdSafe(t, true, p, x, 2, 1)
		flush(t, p, n)
		holdSafe(t, false, p, x, 2, 1)
		loose(t, p, n, 16, pos, b)
		holdSafe(t, false, p, x, 2, 1)
		flush(t, p, n)
		holdSafe(t, true, p, x, 2, 1)
		if e := p.Erase(n, 16, pos); e != api.OK {
			t.Fatalf("Erase = %d", e)
		}
		holdSafe(t, true, p, x, 2, 1)
		flush(t, p, n)
		holdSafe(t, false, p, x, 2, 1)
		loose(t, p, n, 16, pos, b)
		holdSafe(t, false, p, x, 2, 1)
		p.Crash(math.MaxUint64)
		holdSafe(t, true, p, x, 2, 1)
	}
}

// Of a shard that lasts in two slots the one counts that would be Loaded.
func TestSafeTwice(t *testing.T) {
	for pos, n := range []int{2, 0, 1} {
		p, x := one(t)
		b, other := shardsOf(t, 2, 1, 16)[pos], []byte("8 others")
		direct(t, p, n, 3, slot.Frame(16, pos, other))
		holdSafe(t, true, p, x, 2, 1)
		direct(t, p, n, 0, slot.Frame(16, pos, other))
		holdSafe(t, false, p, x, 2, 1)
		direct(t, p, n, 1, slot.Frame(16, pos, b))
		holdSafe(t, false, p, x, 2, 1)
		for _, short := range [][]byte{nil, b[:7], append(slices.Clone(b), 0)} {
			direct(t, p, n, 0, slot.Frame(16, pos, short))
			holdSafe(t, false, p, x, 2, 1)
		}
		direct(t, p, n, 0, nil)
		holdSafe(t, true, p, x, 2, 1)
		direct(t, p, n, 1, nil)
		holdSafe(t, false, p, x, 2, 1)
	}
}

// All codes, each bit of each shard: each is right by its own sum, and lasts, but they are not those of one row, unless any are.
func TestSafeBits(t *testing.T) {
	eachCode(func(k, m int) {
		p, x := drives(t, k+m, 1), newTable(t, k, m, in(k+m)...)
		var locs []int
		for n := range k + m {
			locs = append(locs, n)
		}
		put(t, x, k, 1, locs)
		shards := shardsOf(t, k, m, 16)
		lay(t, p, x, k, m)
		for pos, b := range shards {
			for bit := range 8 * api.ShardLen {
				wrong := slices.Clone(b)
				wrong[bit/8] ^= 1 << (bit % 8)
				flushed(t, p, pos, 16, pos, wrong)
				holdSafe(t, m == 0, p, x, k, m)
			}
			flushed(t, p, pos, 16, pos, b)
			holdSafe(t, true, p, x, k, m)
		}
	})
}

// Shards of other data, or in another order, are of one row only if all are.
func TestSafeRows(t *testing.T) {
	eachCode(func(k, m int) {
		p, x := drives(t, k+m, 1), newTable(t, k, m, in(k+m)...)
		var locs []int
		for n := range k + m {
			locs = append(locs, k+m-1-n)
		}
		put(t, x, k, 1, locs)
		mine, others := shardsOf(t, k, m, 16), shardsOf(t, k, m, 17)
		for which := range 1 << (k + m) {
			for pos, n := range locs {
				b := mine[pos]
				if which>>pos&1 == 1 {
					b = others[pos]
				}
				flushed(t, p, n, 16, pos, b)
			}
			holdSafe(t, m == 0 || which == 0 || which == 1<<(k+m)-1, p, x, k, m)
		}
		for a := range k + m {
			for b := range a {
				for pos, n := range locs {
					flushed(t, p, n, 16, pos, mine[pos])
				}
				flushed(t, p, locs[a], 16, a, mine[b])
				flushed(t, p, locs[b], 16, b, mine[a])
				// Of 3 and 1 each of the last two is the other, and the same of the first two; of 1 and m the first two are the same.
				either := k == 3 && m == 1 && b == 2 || k == 1 && a == 1
				holdSafe(t, m == 0 || either, p, x, k, m)
			}
		}
	})
}

// Of many stripes each one counts, the last ones, too, whatever their keys.
func TestSafeEach(t *testing.T) {
	p, x := drives(t, 6, 40), newTable(t, 2, 1, in(6)...)
	at := [][]int{{0, 1, 2}, {3, 4, 5}, {5, 0, 2}}
	for version := 1; version < 30; version += 7 {
		put(t, x, 2, version, at[:1+version%3]...)
	}
	lay(t, p, x, 2, 1)
	holdSafe(t, true, p, x, 2, 1)
	for _, s := range x.Stripes() {
		for pos, n := range s.Locs {
			flushed(t, p, n, s.ID, pos, []byte("8 others"))
			holdSafe(t, false, p, x, 2, 1)
			erase(t, p, n, s.ID, pos)
			holdSafe(t, false, p, x, 2, 1)
			flushed(t, p, n, s.ID, pos, shardsOf(t, 2, 1, s.ID)[pos])
			holdSafe(t, true, p, x, 2, 1)
		}
	}
	last := x.Stripes()[len(x.Stripes())-1]
	move(t, x, last.ID, last.Locs[1], last.Locs[0], last.Locs[2])
	holdSafe(t, false, p, x, 2, 1)
	move(t, x, last.ID, last.Locs...)
	holdSafe(t, true, p, x, 2, 1)
	// What no stripe has there does not count.
	flushed(t, p, 0, last.ID+1, 0, []byte("stray"))
	flushed(t, p, 0, last.ID, 9, []byte("stray"))
	holdSafe(t, true, p, x, 2, 1)
	p.Drive(4).Lose()
	holdSafe(t, false, p, x, 2, 1)
	for _, key := range x.Keys() {
		if o, _ := x.Object(key); len(o.Stripes) > 1 {
			apply(t, x, api.Rec{Kind: api.RecDel, Key: key, ID: 99})
		}
	}
	holdSafe(t, len(x.Stripes()) > 0, p, x, 2, 1)
}

// Neither a stripe's epoch nor its targets have to do with whether it is safe; nor has the power.
func TestSafeWhatever(t *testing.T) {
	p, x := one(t)
	for _, epoch := range []int{0, 1, 77, api.MaxID} {
		apply(t, x, api.Rec{Kind: api.RecMove, Stripes: []api.Stripe{{ID: 16, Epoch: epoch, Locs: []int{2, 0, 1}}}})
		holdSafe(t, true, p, x, 2, 1)
	}
	enter(t, x, 2, 2, 2, 1)
	holdPlaced(t, true, x, 3)
	holdSafe(t, true, p, x, 2, 1)
	p.Fuse(0)
	if e := p.Flush(0); e != api.ErrDown {
		t.Fatalf("Flush = %d", e)
	}
	holdSafe(t, true, p, x, 2, 1)
	holdClean(t, true, p, x)
	holdMargin(t, 1, p, stripeAt(16, 2, 0, 1), 2)
}

// The nearest drives to stripe 16 are 6, 8, 3, 2, 7, 5, 10, 0, 1, 9, 4, 11; to stripe 17 they are 3, 9, 4, 0, 1, 7, 6, 8, 2, 10, 5, 11.
func TestPlaced(t *testing.T) {
	x := newTable(t, 2, 1, in(12)...)
	put(t, x, 2, 1, []int{6, 8, 3}, []int{3, 9, 4})
	holdPlaced(t, true, x, 3)
	move(t, x, 17, 3, 4, 9)
	holdPlaced(t, false, x, 3)
	move(t, x, 17, 3, 9, 0)
	holdPlaced(t, false, x, 3)
	move(t, x, 17, 3, 9, 4)
	move(t, x, 16, 6, 8, 2)
	holdPlaced(t, false, x, 3)
	enter(t, x, 1, 1, 1, api.Draining, 1, 1, 1, 1, 1, 1, 1, 1)
	holdPlaced(t, false, x, 3)
	move(t, x, 17, 9, 4, 0)
	holdPlaced(t, true, x, 3)
	enter(t, x, 1, 1, 1, api.Gone, 1, 1, 1, 1, 1, 1, 1, 1)
	holdPlaced(t, true, x, 3)
	enter(t, x, in(12)...)
	holdPlaced(t, false, x, 3)
	for _, id := range []int{16, 17} {
		apply(t, x, api.Rec{Kind: api.RecMove, Stripes: []api.Stripe{{ID: id, Locs: map[int][]int{16: {6, 8, 3}, 17: {3, 9, 4}}[id]}}})
	}
	holdPlaced(t, true, x, 3)
}

// Of an n that is not the stripes' own all are elsewhere; of one above the drives that are In, or below 0, there is nowhere to be.
func TestPlacedCounts(t *testing.T) {
	x := newTable(t, 2, 1, in(12)...)
	put(t, x, 2, 1, []int{6, 8, 3})
	for n := -3; n < 20; n++ {
		holdPlaced(t, n < 0 || n == 3 || n > 12, x, n)
	}
	move(t, x, 16, 0, 1, 2)
	for n := -3; n < 20; n++ {
		holdPlaced(t, n < 0 || n > 12, x, n)
	}
	enter(t, x, 0, 0, 0, 1, 2, 2, 1, 2, 2, 0, 2, 2)
	for n := -3; n < 20; n++ {
		holdPlaced(t, n < 0 || n > 2, x, n)
	}
	enter(t, x, make([]int, 12)...)
	for n := -3; n < 20; n++ {
		holdPlaced(t, n != 0, x, n)
	}
	for _, n := range far() {
		holdPlaced(t, true, x, n)
	}
	apply(t, x, api.Rec{Kind: api.RecDel, Key: keyOf(1), ID: 2})
	holdPlaced(t, true, x, 0)
}

// A shard that has no place is astray, be it loose, on whatever drive that is not lost.
func TestClean(t *testing.T) {
	p, x := one(t)
	holdClean(t, true, p, x)
	for n := range 4 {
		for _, is := range [][2]int{{17, 0}, {15, 0}, {0, 0}, {16, 3}, {16, 255}, {api.MaxID, 1}} {
			loose(t, p, n, is[0], is[1], nil)
			holdClean(t, false, p, x)
			p.Crash(0)
			holdClean(t, true, p, x)
			flushed(t, p, n, is[0], is[1], []byte("a shard!"))
			holdClean(t, false, p, x)
			erase(t, p, n, is[0], is[1])
			holdClean(t, true, p, x)
		}
		for pos := range 3 {
			at := []int{2, 0, 1}[pos] == n
			loose(t, p, n, 16, pos, nil)
			holdClean(t, at, p, x)
			p.Crash(0)
			holdClean(t, true, p, x)
		}
	}
}

// Where no stripe has places any more all is astray; at new places what is at the old ones is.
func TestCleanMoved(t *testing.T) {
	p, x := one(t)
	move(t, x, 16, 2, 0, 3)
	holdClean(t, false, p, x)
	erase(t, p, 1, 16, 2)
	holdClean(t, true, p, x)
	holdSafe(t, false, p, x, 2, 1)
	move(t, x, 16, 0, 2, 3)
	holdClean(t, false, p, x)
	move(t, x, 16, 2, 0, 3)
	apply(t, x, api.Rec{Kind: api.RecDel, Key: keyOf(1), ID: 2})
	holdSafe(t, true, p, x, 2, 1)
	holdClean(t, false, p, x)
	erase(t, p, 2, 16, 0)
	holdClean(t, false, p, x)
	erase(t, p, 0, 16, 1)
	holdClean(t, true, p, x)
	holdClean(t, true, p, nil)
}

// What is on a drive that is lost is nowhere; what is on the others is.
func TestCleanLost(t *testing.T) {
	for n := range 4 {
		p, x := one(t)
		flushed(t, p, n, 99, 0, nil)
		holdClean(t, false, p, x)
		p.Drive((n + 1) % 4).Lose()
		holdClean(t, false, p, x)
		holdClean(t, false, p, nil)
		p.Drive(n).Lose()
		holdClean(t, true, p, x)
	}
}

// Bytes that are no shard are not astray.
func TestCleanBytes(t *testing.T) {
	p, x := one(t)
	frame := slot.Frame(99, 0, []byte("a shard!"))
	for at := range frame {
		bad := slices.Clone(frame)
		bad[at] ^= 4
		direct(t, p, 3, 1, bad)
		holdClean(t, true, p, x)
	}
	direct(t, p, 3, 1, []byte("no shard of any stripe"))
	holdClean(t, true, p, x)
	direct(t, p, 3, 1, frame)
	holdClean(t, false, p, x)
	direct(t, p, 3, 1, slot.Frame(math.MaxUint32, 255, nil))
	holdClean(t, false, p, x)
}

// Each shard that lasts counts, and no other, whatever is in it, and whatever its drive's state.
func TestMargin(t *testing.T) {
	p, s := drives(t, 5, 4), stripeAt(16, 4, 2, 0, 1)
	for pos, n := range s.Locs {
		holdMargin(t, pos-2, p, s, 2)
		loose(t, p, n, 16, pos, []byte("other")[:pos])
		holdMargin(t, pos-2, p, s, 2)
		flush(t, p, n)
		holdMargin(t, pos-1, p, s, 2)
		loose(t, p, n, 16, pos, []byte("8 others"))
		holdMargin(t, pos-1, p, s, 2)
	}
	for k := -9; k < 9; k++ {
		holdMargin(t, 4-k, p, s, k)
	}
	holdMargin(t, -2, p, stripeAt(17, 4, 2, 0, 1), 2)
	holdMargin(t, -2, p, stripeAt(16, 2, 0, 1, 4), 2)
	holdMargin(t, 1, p, stripeAt(16, 4, 2, 0, 3), 2)
	holdMargin(t, 1, p, stripeAt(16, 4, 2, 0), 2)
	holdMargin(t, 2, p, stripeAt(16, 4, 2, 0, 1, 3, 3), 2)
	for lost, n := range s.Locs {
		p.Drive(n).Lose()
		holdMargin(t, 1-lost, p, s, 2)
	}
	p.Drive(3).Lose()
	holdMargin(t, -2, p, s, 2)
}

// A shard that is erased lasts till that is flushed; one in two slots is one.
func TestMarginSlots(t *testing.T) {
	p, s := drives(t, 2, 4), stripeAt(16, 0, 1)
	direct(t, p, 0, 3, slot.Frame(16, 0, nil))
	holdMargin(t, 0, p, s, 1)
	direct(t, p, 0, 1, slot.Frame(16, 0, nil))
	holdMargin(t, 0, p, s, 1)
	for want := range 2 {
		if e := p.Erase(0, 16, 0); e != api.OK {
			t.Fatalf("Erase = %d", e)
		}
		holdMargin(t, 0, p, s, 1)
		flush(t, p, 0)
		holdMargin(t, -want, p, s, 1)
	}
	bad := slot.Frame(16, 0, []byte("a shard!"))
	bad[8] ^= 1
	direct(t, p, 0, 0, bad)
	direct(t, p, 0, 2, []byte("no shard of any stripe"))
	holdMargin(t, -1, p, s, 1)
}

// A stripe need not be right: of a drive that is there twice each place counts.
func TestMarginAnyStripe(t *testing.T) {
	p := drives(t, 3, api.MaxCap)
	for pos := range 5 {
		flushed(t, p, 1, 16, pos, nil)
	}
	holdMargin(t, -1, p, api.Stripe{}, 1)
	holdMargin(t, -1, p, stripeAt(16), 1)
	holdMargin(t, 0, p, stripeAt(16), 0)
	holdMargin(t, 7, p, stripeAt(16), -7)
	holdMargin(t, 1, p, stripeAt(16, 1, 1), 1)
	holdMargin(t, 4, p, stripeAt(16, 1, 1, 1, 1, 1), 1)
	holdMargin(t, 4, p, stripeAt(16, 1, 1, 1, 1, 1, 1), 1)
	holdMargin(t, 2, p, stripeAt(16, 1, 0, 1, 2, 1, 1), 1)
	for _, n := range append(far(), 3, 12) {
		holdMargin(t, 1, p, stripeAt(16, 1, n, 1), 1)
		holdMargin(t, -1, p, stripeAt(n, 1, 1, 1), 1)
		holdMargin(t, -1, p, stripeAt(16+n, 1, 1, 1), 1)
		holdMargin(t, 1, p, api.Stripe{ID: 16, Epoch: n, Locs: []int{1, 1}}, 1)
	}
	holdMargin(t, -1, p, stripeAt(16+1<<32, 1, 1), 1)
	holdMargin(t, -1, p, stripeAt(16-1<<32, 1, 1), 1)
}

// No shard has a place above 255.
func TestMarginPlaces(t *testing.T) {
	p := drives(t, 3, api.MaxCap)
	var locs []int
	for pos := range 1000 {
		locs = append(locs, pos/api.MaxCap%2)
	}
	for pos := range 256 {
		loose(t, p, locs[pos], 16, pos, nil)
	}
	holdMargin(t, -4, p, stripeAt(16, locs...), 4)
	flush(t, p, 0)
	holdMargin(t, 124, p, stripeAt(16, locs...), 4)
	flush(t, p, 1)
	for _, many := range []int{255, 256, 257, 1000} {
		holdMargin(t, min(many, 256)-4, p, stripeAt(16, locs[:many]...), 4)
	}
	direct(t, p, 2, 0, slot.Frame(math.MaxUint32, 255, nil))
	holdMargin(t, 1, p, stripeAt(math.MaxUint32, slices.Repeat([]int{2}, 256)...), 0)
	holdMargin(t, 0, p, stripeAt(-1, slices.Repeat([]int{2}, 256)...), 0)
}

// A k at the ends of int goes round as sums do.
func TestMarginEnds(t *testing.T) {
	p := drives(t, 2, 1)
	flushed(t, p, 0, 16, 0, nil)
	flushed(t, p, 1, 16, 1, nil)
	s := stripeAt(16, 0, 1)
	holdMargin(t, 2-math.MaxInt64, p, s, math.MaxInt64)
	holdMargin(t, math.MaxInt64, p, s, 2-math.MaxInt64)
	holdMargin(t, math.MinInt64, p, s, 1-math.MaxInt64)
	holdMargin(t, math.MinInt64+2, p, s, math.MinInt64)
	holdMargin(t, math.MaxInt64, p, stripeAt(16), -math.MaxInt64)
}

// Neither pool nor table need be there.
func TestNil(t *testing.T) {
	p, x := one(t)
	for _, none := range []*pool.Pool{nil, {}, pool.New()} {
		holdSafe(t, false, none, x, 2, 1)
		holdClean(t, true, none, x)
		holdMargin(t, -2, none, stripeAt(16, 2, 0, 1), 2)
	}
	for _, none := range []*table.Table{nil, {}, table.New(2, 1)} {
		holdSafe(t, true, p, none, 2, 1)
		holdPlaced(t, true, none, 3)
		holdPlaced(t, true, none, 0)
		holdClean(t, false, p, none)
	}
}

// lasts tells just what lasts, byte by byte.
func TestLasts(t *testing.T) {
	p := drives(t, 2, 3)
	b := []byte("a shard!")
	flushed(t, p, 1, 16, 2, b)
	loose(t, p, 1, 16, 2, []byte("another!"))
	if got := lasts(p, 1, 16, 2); !bytes.Equal(got, b) {
		t.Errorf("%q lasts", got)
	}
	for _, is := range [][3]int{{0, 16, 2}, {2, 16, 2}, {-1, 16, 2}, {1, 17, 2}, {1, 16, 1}, {1, 16, 258}, {1, 16 + 1<<32, 2}} {
		if got := lasts(p, is[0], is[1], is[2]); got != nil {
			t.Errorf("of %v %q lasts", is, got)
		}
	}
}
