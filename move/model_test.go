package move

import (
	"slices"
	"testing"

	"flitting/api"
	"flitting/pool"
	"flitting/rs"
	"flitting/slot"
)

// seeded is a row of numbers that follow a rule.
type seeded uint64

// below is the next number of the row, from 0 to below n.
func (s *seeded) below(n int) int {
	*s = *s*6364136223846793005 + 1442695040888963407
	return int(uint64(*s) >> 33 % uint64(n))
}

// thing is one thing to be done, on a pool.
type thing func(p *pool.Pool) api.Errno

// model is a move as a row of things, all told when it begins; those that are done are taken off its front.
type model struct {
	left []thing
}

// anew is the shard of a place, by what stands at all places.
func anew(p *pool.Pool, k, m, id int, locs []int, pos int) ([]byte, api.Errno) {
	shards := make([][]byte, len(locs))
	for at := range locs {
		if b, e := p.Load(locs[at], id, at); e == api.OK && len(b) == 8 {
			shards[at] = b
		}
	}
	return rs.Rebuild(k, m, shards, pos)
}

// newModel is that of a move that there is.
func newModel(k, m, id int, locs, target []int) *model {
	var stores, flushes, looks []thing
	for pos, to := range target {
		if to == locs[pos] {
			continue
		}
		stores = append(stores, func(p *pool.Pool) api.Errno {
			b, e := anew(p, k, m, id, locs, pos)
			if e == api.OK {
				e = p.Store(to, id, pos, b)
			}
			return e
		})
		flushes = append(flushes, func(p *pool.Pool) api.Errno { return p.Flush(to) })
		looks = append(looks, func(p *pool.Pool) api.Errno {
			had, e := p.Load(to, id, pos)
			want, f := anew(p, k, m, id, locs, pos)
			switch {
			case e != api.OK:
				return e
			case f != api.OK:
				return f
			case string(had) != string(want):
				return api.ErrCorrupt
			}
			return api.OK
		})
	}
	return &model{slices.Concat(stores, flushes, looks)}
}

func (m *model) next(p *pool.Pool) (ready bool, e api.Errno) {
	if len(m.left) == 0 {
		return true, api.OK
	}
	e = m.left[0](p)
	if e == api.OK {
		m.left = m.left[1:]
	}
	return false, e
}

// twins are two pools that are done the same to, but for the moves: on one those of the program, on the other the models'.
type twins [2]*pool.Pool

func (w twins) each(do func(p *pool.Pool) api.Errno) {
	for _, p := range w {
		do(p)
	}
}

const (
	maxStripe = 4 // how many stripes there are
	places    = 7
)

// stir does something that is no move's.
func (w twins) stir(s *seeded) {
	n, id, pos, at := s.below(w[0].Len()), s.below(maxStripe), s.below(places), s.below(40)
	b := []byte("a shard, or longer bytes"[:s.below(12)])
	bits := uint64(s.below(1<<31)) * 0x100000001
	switch s.below(40) {
	case 0:
		w.each(func(p *pool.Pool) api.Errno { p.Crash(bits); return 0 })
	case 1:
		w.each(func(p *pool.Pool) api.Errno { p.Fuse(at); return 0 })
	case 2:
		if at == 0 {
			w.each(func(p *pool.Pool) api.Errno { p.Drive(n).Lose(); return 0 })
		}
	case 3, 4:
		w.each(func(p *pool.Pool) api.Errno { return p.Erase(n, id, pos) })
	case 5:
		w.each(func(p *pool.Pool) api.Errno { return p.Store(n, id, pos, b) })
	case 6:
		w.each(func(p *pool.Pool) api.Errno { return p.Drive(n).Write(at, slot.Frame(id, pos, b)) })
	case 7:
		w.each(func(p *pool.Pool) api.Errno { return p.Drive(n).Write(at, b) })
	case 8, 9:
		w.each(func(p *pool.Pool) api.Errno { return p.Flush(n) })
	}
}

// lay stores all shards of a stripe, where there is room.
func (w twins) lay(t *testing.T, s *seeded, k, m, id int, locs []int) {
	t.Helper()
	start := s.below(len(text) - k*8 + 1)
	shards := encoded(t, k, m, text[start:start+k*8])
	for pos, n := range locs {
		w.each(func(p *pool.Pool) api.Errno { return p.Store(n, id, pos, shards[pos]) })
	}
}

// locs is so many drives of most, unlike ones or not, or such as there are not.
func (s *seeded) locs(count, most int) []int {
	list := make([]int, count)
	for pos := range list {
		list[pos] = s.below(most)
		for s.below(10) > 0 && slices.Contains(list[:pos], list[pos]) {
			list[pos] = s.below(most)
		}
		if s.below(100) == 0 {
			list[pos] = most
		}
	}
	return list
}

// pair is a move and its model.
type pair struct {
	x *Move
	m *model
}

// begin is a move of some stripe, that is there at first.
func (w twins) begin(t *testing.T, s *seeded) pair {
	t.Helper()
	k, m, id, most := 1+s.below(api.MaxK), s.below(api.MaxM+1), s.below(maxStripe), w[0].Len()
	locs, target := s.locs(k+m, most), s.locs(k+m, most)
	for pos := range target {
		if s.below(3) == 0 {
			target[pos] = locs[pos]
		}
	}
	w.lay(t, s, k, m, id, locs)
	return pair{began(t, k, m, stripeAt(id, locs...), target...), newModel(k, m, id, locs, target)}
}

// told counts what was answered.
type told map[api.Errno]int

// hold holds Next of the move and the model against each other, and what it left.
func (w twins) hold(t *testing.T, x pair, count told) (ready bool) {
	t.Helper()
	ready, e := x.x.Next(w[0])
	if r, f := x.m.next(w[1]); r != ready || f != e {
		t.Fatalf("Next = %v, %d, want %v, %d", ready, e, r, f)
	}
	holdSeen(t, w[0], seen(w[1]))
	count[e]++
	if ready {
		count[-1]++
	}
	return ready
}

// TestLongRows holds moves, several at a time, while all else is done to the drives, against the model.
func TestLongRows(t *testing.T) {
	seed := seeded(18)
	count := told{}
	for range 100 {
		most := 7 + seed.below(6)
		w := twins{drives(t, most, 9), drives(t, most, 9)}
		list := []pair{w.begin(t, &seed), w.begin(t, &seed), w.begin(t, &seed)}
		for range 200 {
			w.stir(&seed)
			at := seed.below(len(list))
			ready := w.hold(t, list[at], count)
			// One that is ready, or that comes no farther, is followed by another, mostly.
			if ready && seed.below(3) > 0 || seed.below(40) == 0 {
				list[at] = w.begin(t, &seed)
			}
		}
	}
	for _, e := range []api.Errno{-1, api.OK, api.ErrArg, api.ErrFull, api.ErrNone, api.ErrLost, api.ErrDown, api.ErrCorrupt} {
		if count[e] < 50 {
			t.Errorf("%d was told %d times alone", e, count[e])
		}
	}
}
