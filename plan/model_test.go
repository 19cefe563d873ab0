package plan

import (
	"crypto/sha256"
	"encoding/binary"
	"math"
	"slices"
	"testing"

	"flitting/api"
	"flitting/pool"
	"flitting/slot"
	"flitting/table"
)

// weight is that of a drive for a stripe, by the library.
func weight(stripe, drive int) uint64 {
	var both [16]byte
	binary.BigEndian.PutUint64(both[:8], uint64(stripe))
	binary.BigEndian.PutUint64(both[8:], uint64(drive))
	sum := sha256.Sum256(both[:])
	return binary.BigEndian.Uint64(sum[:8])
}

// nearest is the n nearest drives that are In, told another way than the program's: the nearest of those that are left is taken, one by one.
func nearest(stripe int, states []int, n int) ([]int, bool) {
	left := slices.Clone(states)
	var list []int
	for len(list) < n {
		best := -1
		for drive, state := range left {
			if state == 1 && (best < 0 || weight(stripe, drive) > weight(stripe, best)) {
				best = drive
			}
		}
		if best < 0 {
			return nil, false
		}
		left[best] = 0
		list = append(list, best)
	}
	return list, n >= 0
}

// stripesOf is all stripes of a table, object by object.
func stripesOf(x *table.Table) []api.Stripe {
	var list []api.Stripe
	for _, o := range x.All().Objects {
		list = append(list, o.Stripes...)
	}
	return list
}

// target is what Target should answer.
func target(x *table.Table, id, n int) ([]int, bool) {
	for _, s := range stripesOf(x) {
		if s.ID == id {
			return nearest(id, x.All().Drives, n)
		}
	}
	return nil, false
}

// wrong is what Wrong should answer.
func wrong(x *table.Table, n int) []int {
	var list []int
	for _, s := range stripesOf(x) {
		at, ok := nearest(s.ID, x.All().Drives, n)
		same := len(at) == len(s.Locs)
		for pos := range at {
			same = same && at[pos] == s.Locs[pos]
		}
		if ok && !same {
			list = append(list, s.ID)
		}
	}
	slices.Sort(list)
	return list
}

// shardAt is a shard on a drive.
type shardAt struct {
	drive, stripe, pos int
}

// belongs tells whether one of the stripes has that shard there.
func (x shardAt) belongs(list []api.Stripe) bool {
	for _, s := range list {
		if s.ID == x.stripe && x.pos < len(s.Locs) && s.Locs[x.pos] == x.drive {
			return true
		}
	}
	return false
}

// strays is all shards that belong nowhere, drive by drive and slot by slot, as they stand on the drives themselves.
func strays(p *pool.Pool, x *table.Table, keep []api.Stripe) []shardAt {
	var list []shardAt
	for n := range p.Len() {
		for at := range p.Drive(n).Cap() {
			b, _ := p.Drive(n).Read(at)
			stripe, pos, _, ok := slot.Open(b)
			is := shardAt{n, stripe, pos}
			if ok && !is.belongs(stripesOf(x)) && !is.belongs(keep) {
				list = append(list, is)
			}
		}
	}
	return list
}

// seeded is a row of numbers that follow a rule.
type seeded uint64

// below is the next number of the row, from 0 to below n.
func (s *seeded) below(n int) int {
	*s = *s*6364136223846793005 + 1442695040888963407
	return int(uint64(*s) >> 33 % uint64(n))
}

// locs is so many unlike drives of the first most.
func (s *seeded) locs(count, most int) []int {
	list := make([]int, most)
	for n := range list {
		list[n] = n
	}
	for at := range list {
		other := at + s.below(most-at)
		list[at], list[other] = list[other], list[at]
	}
	return list[:count]
}

// states is of so many drives, most of them In.
func (s *seeded) states(count int) []int {
	list := make([]int, count)
	for n := range list {
		list[n] = []int{api.In, api.In, api.In, api.In, api.Draining, api.Gone}[s.below(6)]
	}
	return list
}

// table is one of some objects, of which some stripes are at their targets.
func (s *seeded) table(t *testing.T, k, m, drives int) *table.Table {
	t.Helper()
	states := s.states(drives)
	x := newTable(t, k, m, states)
	for version := 1 + s.below(3); version < 12; version += 1 + s.below(5) {
		var all [][]int
		for n := range s.below(12/k + 1) {
			at := s.locs(k+m, drives)
			if best, ok := nearest(16*version+n, states, k+m); ok && s.below(2) == 0 {
				at = best
			}
			all = append(all, at)
		}
		put(t, x, k, version, all...)
	}
	return x
}

// TestManyTables holds Wrong and Target of all kinds of tables against the model, from epoch to epoch.
func TestManyTables(t *testing.T) {
	seed := seeded(17)
	told := 0
	for run := range 200 {
		k, m := 1+run%4, run/4%4
		drives := k + m + seed.below(13-k-m)
		x := seed.table(t, k, m, drives)
		for range 3 {
			for n := -1; n <= drives+1; n++ {
				holdWrong(t, x, n, wrong(x, n))
			}
			for id := range 16 * 13 {
				at, ok := target(x, id, k+m)
				holdTarget(t, x, id, k+m, at, ok)
			}
			told += len(wrong(x, k+m))
			enter(t, x, seed.states(drives))
		}
	}
	if told < 1000 {
		t.Errorf("only %d stripes were wrong", told)
	}
}

// TestSettles holds that stripes which are moved to their targets, in any order, are not wrong any more, and no others.
func TestSettles(t *testing.T) {
	seed := seeded(18)
	for run := range 60 {
		k, m := 1+run%4, run/4%4
		x := seed.table(t, k, m, 12)
		for {
			list := Wrong(x, k+m)
			holdWrong(t, x, k+m, wrong(x, k+m))
			if len(list) == 0 {
				break
			}
			id := list[seed.below(len(list))]
			at, ok := Target(x, id, k+m)
			if !ok {
				t.Fatalf("Target(%d) of a stripe that is Wrong: none", id)
			}
			move(t, x, id, at...)
			if slices.Contains(Wrong(x, k+m), id) || len(Wrong(x, k+m)) != len(list)-1 {
				t.Fatalf("behind the move of %d of %v, Wrong is %v", id, list, Wrong(x, k+m))
			}
		}
	}
}

// lay stores all shards of the stripes on drives that have room, but some.
func (s *seeded) lay(p *pool.Pool, list []api.Stripe) {
	for _, one := range list {
		for pos, n := range one.Locs {
			if s.below(8) > 0 {
				p.Store(n, one.ID, pos, []byte("8 bytes!"))
			}
		}
	}
}

// litter stores shards that mostly belong nowhere, but are near to such as belong somewhere.
func (s *seeded) litter(p *pool.Pool, list []api.Stripe, many int) {
	for range many {
		id, pos := 16+s.below(200), s.below(8)
		if len(list) > 0 && s.below(4) > 0 {
			id = list[s.below(len(list))].ID
		}
		p.Store(s.below(p.Len()), id, pos, []byte("stray"))
	}
}

// kept is stripes that a table has not, and other places of such as it has.
func (s *seeded) kept(k, m, drives int, list []api.Stripe) []api.Stripe {
	var keep []api.Stripe
	for range s.below(5) {
		keep = append(keep, stripeAt(16*30+s.below(8), s.locs(k+m, drives)...))
		if len(list) > 0 {
			keep = append(keep, stripeAt(list[s.below(len(list))].ID, s.locs(k+m, drives)...))
		}
	}
	return keep
}

// stir lets some of what is there be loose, or erased, or lost, or bytes that are no shard.
func (s *seeded) stir(p *pool.Pool) {
	for range s.below(20) {
		n := s.below(p.Len())
		switch s.below(12) {
		case 0:
			p.Drive(n).Lose()
		case 1:
			p.Crash(uint64(s.below(math.MaxInt32)) << s.below(32))
		case 2, 3, 4, 5:
			p.Flush(n)
		case 6, 7:
			p.Drive(n).Write(s.below(40), []byte("no shard of any stripe"))
		case 8:
			p.Drive(n).Write(s.below(40), slot.Frame(s.below(300), s.below(9), nil))
		default:
			if held := p.Held(n); len(held) > 0 {
				one := held[s.below(len(held))]
				p.Erase(n, one[0], one[1])
			}
		}
	}
}

// TestManyPools holds Stray of all kinds of pools against the model, and that those that are erased, one by one, were all.
func TestManyPools(t *testing.T) {
	seed := seeded(19)
	none, some := 0, 0
	for run := range 400 {
		k, m := 1+run%4, run/4%4
		drives := k + m + seed.below(13-k-m)
		x, p := seed.table(t, k, m, drives), pool.New()
		for range drives {
			p.Add(seed.below(100))
		}
		keep := seed.kept(k, m, drives, stripesOf(x))
		seed.lay(p, slices.Concat(stripesOf(x), keep))
		seed.litter(p, stripesOf(x), seed.below(10))
		seed.stir(p)
		holdModel(t, p, x, nil)
		holdModel(t, p, x, keep[:len(keep)/2])
		left := len(strays(p, x, keep))
		for ; left > 0; left-- {
			holdModel(t, p, x, keep)
			n, stripe, pos, _ := Stray(p, x, keep)
			erase(t, p, n, stripe, pos)
			some++
		}
		holdStray(t, p, x, keep, shardAt{}, false)
		none++
		if t.Failed() {
			t.Fatalf("run %d", run)
		}
	}
	if none < 400 || some < 1000 {
		t.Errorf("only %d times none, %d times some", none, some)
	}
}

// holdModel holds Stray against the first of the model's.
func holdModel(t *testing.T, p *pool.Pool, x *table.Table, keep []api.Stripe) {
	t.Helper()
	if all := strays(p, x, keep); len(all) > 0 {
		holdStray(t, p, x, keep, all[0], true)
	} else {
		holdStray(t, p, x, keep, shardAt{}, false)
	}
}
