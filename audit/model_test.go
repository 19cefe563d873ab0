package audit

import (
	"crypto/sha256"
	"encoding/binary"
	"slices"
	"testing"

	"flitting/api"
	"flitting/pool"
	"flitting/slot"
	"flitting/table"
)

// powers is the powers of 2, and which each byte is.
var powers, which = func() (powers [255]byte, which [256]int) {
	power := byte(1)
	for n := range powers {
		powers[n], which[power] = power, n
		power = power<<1 ^ 29*(power>>7)
	}
	return powers, which
}()

// times is the product of two bytes, told another way than the program's: by the powers of 2.
func times(a, b byte) byte {
	if a == 0 || b == 0 {
		return 0
	}
	return powers[(which[a]+which[b])%255]
}

// over is the byte whose product with b is 1.
func over(b byte) byte {
	for n := range 256 {
		if times(byte(n), b) == 1 {
			return byte(n)
		}
	}
	return 0
}

// factors is what the n-th shard beside the data has of each of k rows.
func factors(k, n int) []byte {
	var list []byte
	for at := range k {
		list = append(list, over(byte((k+n)^at)))
	}
	return list
}

// rowModel tells whether the shards behind the first k are what they should be by those.
func rowModel(k int, shards [][]byte) bool {
	for _, b := range shards {
		if len(b) != api.ShardLen {
			return false
		}
	}
	for n, b := range shards[k:] {
		by := factors(k, n)
		for at, is := range b {
			for row, factor := range by {
				is ^= times(factor, shards[row][at])
			}
			if is != 0 {
				return false
			}
		}
	}
	return true
}

// slots is what lasts on drive n: each shard with its place.
func slots(p *pool.Pool, n int) map[[2]int][]byte {
	all := map[[2]int][]byte{}
	if n < 0 || n >= p.Len() {
		return all
	}
	d := p.Drive(n)
	for at := d.Cap() - 1; at >= 0; at-- {
		b, _ := d.Lasts(at)
		if stripe, pos, b, ok := slot.Open(b); ok {
			all[[2]int{stripe, pos}] = b
		}
	}
	return all
}

// safeModel is what Safe should answer.
func safeModel(p *pool.Pool, x *table.Table, k, m int) bool {
	all := x.All()
	for _, o := range all.Objects {
		for _, s := range o.Stripes {
			if k < 1 || k > 4 || m < 0 || m > 3 || len(s.Locs) != k+m {
				return false
			}
			var shards [][]byte
			for pos, n := range s.Locs {
				b, ok := slots(p, n)[[2]int{s.ID, pos}]
				state := slices.Concat(all.Drives, make([]int, 12))[n]
				if !ok || state != 1 && state != 2 || p.Drive(n).Lost() || slices.Contains(s.Locs[:pos], n) {
					return false
				}
				shards = append(shards, b)
			}
			if !rowModel(k, shards) {
				return false
			}
		}
	}
	return true
}

// weight is that of a drive for a stripe, by the library.
func weight(stripe, drive int) uint64 {
	var both [16]byte
	binary.BigEndian.PutUint64(both[:8], uint64(stripe))
	binary.BigEndian.PutUint64(both[8:], uint64(drive))
	sum := sha256.Sum256(both[:])
	return binary.BigEndian.Uint64(sum[:8])
}

// nearest is the n nearest drives that are In, told another way than the program's: the nearest of those that are left is taken, one by one.
func nearest(stripe int, states []int, n int) ([]int, bool) {
	left := slices.Clone(states)
	var list []int
	for len(list) < n {
		best := -1
		for drive, state := range left {
			if state == 1 && (best < 0 || weight(stripe, drive) > weight(stripe, best)) {
				best = drive
			}
		}
		if best < 0 {
			return nil, false
		}
		left[best] = 0
		list = append(list, best)
	}
	return list, n >= 0
}

// placedModel is what Placed should answer.
func placedModel(x *table.Table, n int) bool {
	for _, o := range x.All().Objects {
		for _, s := range o.Stripes {
			if at, ok := nearest(s.ID, x.All().Drives, n); ok && !slices.Equal(at, s.Locs) {
				return false
			}
		}
	}
	return true
}

// cleanModel is what Clean should answer.
func cleanModel(p *pool.Pool, x *table.Table) bool {
	right := map[[3]int]int{}
	for _, o := range x.All().Objects {
		for _, s := range o.Stripes {
			for pos, n := range s.Locs {
				right[[3]int{n, s.ID, pos}]++
			}
		}
	}
	for n := range p.Len() {
		for at := range p.Drive(n).Cap() {
			b, _ := p.Drive(n).Read(at)
			if stripe, pos, _, ok := slot.Open(b); ok && right[[3]int{n, stripe, pos}] == 0 {
				return false
			}
		}
	}
	return true
}

// marginModel is what Margin should answer.
func marginModel(p *pool.Pool, s api.Stripe, k int) int {
	margin := -k
	for pos, n := range s.Locs {
		if _, ok := slots(p, n)[[2]int{s.ID, pos}]; ok {
			margin++
		}
	}
	return margin
}

// seeded is a row of numbers that follow a rule.
type seeded uint64

// below is the next number of the row, from 0 to below n.
func (s *seeded) below(n int) int {
	*s = *s*6364136223846793005 + 1442695040888963407
	return int(uint64(*s) >> 33 % uint64(n))
}

// locs is so many unlike drives of the first most.
func (s *seeded) locs(count, most int) []int {
	list := make([]int, most)
	for n := range list {
		list[n] = n
	}
	for at := range list {
		other := at + s.below(most-at)
		list[at], list[other] = list[other], list[at]
	}
	return list[:count]
}

// states is of so many drives, all In, or some of them not.
func (s *seeded) states(count int) []int {
	list := in(count)
	if s.below(3) == 0 {
		list[s.below(count)] = api.Draining
	}
	if s.below(3) == 0 {
		list[s.below(count)] = s.below(3)
	}
	return list
}

// table is one of few objects, of which most stripes are at their targets.
func (s *seeded) table(t *testing.T, k, m, drives int) *table.Table {
	t.Helper()
	states := s.states(drives)
	x := newTable(t, k, m, states...)
	elsewhere := s.below(2)
	for version := 1 + s.below(3); version < 6; version += 1 + s.below(3) {
		var all [][]int
		for n := range s.below(12/k + 1) {
			at, ok := nearest(16*version+n, states, k+m)
			if !ok || s.below(6) < elsewhere {
				at = s.locs(k+m, drives)
			}
			all = append(all, at)
		}
		put(t, x, k, version, all...)
	}
	return x
}

// stir does one thing to what is there: near to what should be, most of it.
func (s *seeded) stir(t *testing.T, p *pool.Pool, x *table.Table, k, m int) {
	t.Helper()
	n, id, pos := s.below(p.Len()), 16+s.below(80), s.below(k+m)
	if all := x.Stripes(); len(all) > 0 && s.below(8) > 0 {
		each := all[s.below(len(all))]
		n, id = each.Locs[pos], each.ID
	}
	b := shardsOf(t, k, m, id)[pos]
	switch s.below(24) {
	case 0:
		b[s.below(8)] ^= byte(s.below(4))
		p.Store(n, id, pos, b)
	case 1:
		p.Store(n, id, pos, b[:7+s.below(2)])
	case 2, 3:
		p.Erase(n, id, pos)
	case 4:
		p.Drive(n).Write(s.below(30), slot.Frame(id, s.below(8), b))
	case 5:
		p.Crash(uint64(s.below(1 << 30)))
	case 6:
		p.Drive(n).Write(s.below(30), b)
	case 7:
		if s.below(12) == 0 {
			p.Drive(n).Lose()
		}
	case 8, 9, 10, 11, 12:
		p.Flush(n)
	default:
		p.Store(n, id, pos, b)
	}
}

// mend has all be as it should, where drives are left for it.
func (s *seeded) mend(t *testing.T, p *pool.Pool, x *table.Table, k, m int) {
	t.Helper()
	for _, each := range x.Stripes() {
		for pos, b := range shardsOf(t, k, m, each.ID) {
			p.Store(each.Locs[pos], each.ID, pos, b)
		}
	}
	for n := range p.Len() {
		p.Flush(n)
	}
}

// tally is how often each call answered false, and how often true.
type tally [3][2]int

func (c *tally) note(call int, is bool) bool {
	if is {
		c[call][1]++
	} else {
		c[call][0]++
	}
	return is
}

// holdAll holds all calls against the model.
func (c *tally) holdAll(t *testing.T, s *seeded, p *pool.Pool, x *table.Table, k, m int) {
	t.Helper()
	holdSafe(t, c.note(0, safeModel(p, x, k, m)), p, x, k, m)
	holdPlaced(t, c.note(1, placedModel(x, k+m)), x, k+m)
	holdClean(t, c.note(2, cleanModel(p, x)), p, x)
	other := s.below(k+m+2) - 1
	holdSafe(t, safeModel(p, x, other, k+m-other), p, x, other, k+m-other)
	n := s.below(15) - 1
	holdPlaced(t, placedModel(x, n), x, n)
	for _, each := range append(x.Stripes(), stripeAt(16+s.below(80), s.below(13), s.below(13), s.below(2))) {
		holdMargin(t, marginModel(p, each, k), p, each, k)
	}
}

// TestLongRows holds what is told of all kinds of tables and pools, while shards come, go and last, against the model.
func TestLongRows(t *testing.T) {
	t.Parallel()
	seed := seeded(23)
	var count tally
	for run := range 160 {
		k, m := 1+run%4, run/4%4
		many := k + m + seed.below(13-k-m)
		x, p := seed.table(t, k, m, many), drives(t, many-seed.below(8)/7, 30)
		lay := seed.below(9)
		for n := range 60 {
			if lay > 0 && n%6 == 5 {
				seed.mend(t, p, x, k, m)
			}
			count.holdAll(t, &seed, p, x, k, m)
			seed.stir(t, p, x, k, m)
			if seed.below(60) == 0 {
				enter(t, x, seed.states(many)...)
			}
			if all := x.Stripes(); len(all) > 0 && seed.below(60) == 0 {
				move(t, x, all[seed.below(len(all))].ID, seed.locs(k+m, many)...)
			}
		}
		if t.Failed() {
			t.Fatalf("run %d", run)
		}
	}
	for call, each := range count {
		if slices.Min(each[:]) < 1000 {
			t.Errorf("call %d was so often false and true: %v", call, each)
		}
	}
}

// TestRowModel holds the model's rows against known ones.
func TestRowModel(t *testing.T) {
	if times(2, 128) != 29 || over(2) != 142 || !slices.Equal(factors(2, 0), []byte{142, 244}) {
		t.Errorf("%d, %d, %v", times(2, 128), over(2), factors(2, 0))
	}
	for id := range 300 {
		eachCode(func(k, m int) {
			shards := shardsOf(t, k, m, id)
			if !rowModel(k, shards) || !row(k, m, shards) {
				t.Errorf("%v are no row of %d, %d", shards, k, m)
			}
		})
	}
}
