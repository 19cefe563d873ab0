package task

import (
	"bytes"
	"testing"

	"flitting/api"
	"flitting/hash"
	"flitting/mat"
	"flitting/pool"
	"flitting/slot"
)

// seeded is a row of numbers that follow a rule.
type seeded uint64

// below is the next number of the row, from 0 to below n.
func (s *seeded) below(n int) int {
	*s = *s*6364136223846793005 + 1442695040888963407
	return int(uint64(*s) >> 33 % uint64(n))
}

// thing is one thing to be done, on a pool.
type thing func(p *pool.Pool) api.Errno

// model is a Put as a row of things, all told when it is planned; those that are done are taken off its front.
type model struct {
	planned bool
	object  api.Object
	left    []thing
}

// nearest is the drives of a stripe, each the one of the greatest weight that is left; false, if too few are In.
func nearest(id int, states []int, many int) ([]int, bool) {
	taken := map[int]struct{}{}
	var locs []int
	for range many {
		best := -1
		for n, state := range states {
			_, ok := taken[n]
			if state == api.In && !ok && (best < 0 || hash.Weight(id, n) > hash.Weight(id, best)) {
				best = n
			}
		}
		if best < 0 {
			return nil, false
		}
		taken[best] = struct{}{}
		locs = append(locs, best)
	}
	return locs, true
}

// shardAt is one shard of a stripe's data, by the code's row of it.
func shardAt(k, m int, data []byte, pos int) []byte {
	b := make([]byte, 8)
	for at := range b {
		column := make([][]byte, k)
		for n := range column {
			column[n] = []byte{data[8*n+at]}
		}
		one, _ := mat.Times(mat.Code(k, m)[pos:pos+1], column)
		b[at] = one[0][0]
	}
	return b
}

func (o *model) plan(key, data string, k, m, version int, states []int, epoch int) api.Errno {
	var stores, flushes []thing
	object := api.Object{Key: key, ID: version, Size: len(data)}
	for rest := []byte(data); len(rest) > 0; {
		part := make([]byte, 8*k)
		rest = rest[copy(part, rest):]
		id := version<<4 | len(object.Stripes)
		locs, ok := nearest(id, states, k+m)
		if !ok {
			return api.ErrTooFew
		}
		object.Stripes = append(object.Stripes, api.Stripe{ID: id, Epoch: epoch, Locs: locs})
		for pos, n := range locs {
			stores = append(stores, func(p *pool.Pool) api.Errno { return p.Store(n, id, pos, shardAt(k, m, part, pos)) })
			flushes = append(flushes, func(p *pool.Pool) api.Errno { return p.Flush(n) })
		}
	}
	*o = model{true, object, append(stores, flushes...)}
	return api.OK
}

func (o *model) next(p *pool.Pool) (ready bool, e api.Errno) {
	if !o.planned {
		return false, api.ErrArg
	}
	if len(o.left) == 0 {
		return true, api.OK
	}
	e = o.left[0](p)
	if e == api.OK {
		o.left = o.left[1:]
	}
	return false, e
}

// twins are two pools that are done the same to, but for the Puts: on one those of the program, on the other the models'.
type twins [2]*pool.Pool

func (w twins) each(do func(p *pool.Pool) api.Errno) {
	for _, p := range w {
		do(p)
	}
}

// stir does something that is no Put's.
func (w twins) stir(s *seeded) {
	n, at, pos := s.below(w[0].Len()), s.below(10), s.below(7)
	id := 16*(1+s.below(3)) + s.below(4)
	b := []byte("a shard, or longer bytes"[:s.below(12)])
	bits := uint64(s.below(1<<31)) * 0x100000001
	switch s.below(30) {
	case 0:
		w.each(func(p *pool.Pool) api.Errno { p.Crash(bits); return 0 })
	case 1:
		if at > 4 {
			w.each(func(p *pool.Pool) api.Errno { p.Fuse(at); return 0 })
		}
	case 2:
		if at == 0 && id < 32 {
			w.each(func(p *pool.Pool) api.Errno { p.Drive(n).Lose(); return 0 })
		}
	case 3, 4:
		w.each(func(p *pool.Pool) api.Errno { return p.Erase(n, id, pos) })
	case 5:
		w.each(func(p *pool.Pool) api.Errno { return p.Store(n, id, pos, b) })
	case 6:
		w.each(func(p *pool.Pool) api.Errno { return p.Drive(n).Write(at, slot.Frame(id, pos, b)) })
	case 7, 8, 9:
		w.each(func(p *pool.Pool) api.Errno { return p.Drive(n).Write(at, b) })
	case 10:
		w.each(func(p *pool.Pool) api.Errno { return p.Flush(n) })
	}
}

// pair is a Put and its model.
type pair struct {
	x    *Task
	o    *model
	k, m int
	data string
}

// begin is a Put of some data, without a plan.
func begin(t *testing.T, s *seeded) pair {
	t.Helper()
	data := text[:s.below(len(text)+1)]
	data = string(bytes.Repeat([]byte{byte(s.below(256))}, s.below(3))) + data
	data = data[:min(len(data), 96)]
	return pair{put(t, data), &model{}, 1 + s.below(api.MaxK), s.below(api.MaxM + 1), data}
}

// told counts what was answered.
type told map[api.Errno]int

// plan plans both for drives of which most are In.
func (x pair) plan(t *testing.T, s *seeded, most int, count told) {
	t.Helper()
	states := make([]int, most)
	for n := range states {
		states[n] = []int{api.In, api.In, api.In, api.In, api.Draining, api.Gone}[s.below(6)]
	}
	version, epoch := 1+s.below(4), s.below(1<<20)
	if s.below(20) == 0 {
		version = 1<<26 - s.below(2)
	}
	want := x.o.plan("key", x.data, x.k, x.m, version, states, epoch)
	holdPlan(t, x.x, x.k, x.m, version, states, epoch, want)
	holdObject(t, x.x, x.o.object)
	if want != api.OK {
		count[want]++
	}
}

// hold holds Next of the task and the model against each other, and what it left.
func (w twins) hold(t *testing.T, x pair, count told) (ready bool) {
	t.Helper()
	ready, e := x.x.Next(w[0], x.k, x.m)
	if r, f := x.o.next(w[1]); r != ready || f != e {
		t.Fatalf("Next = %v, %d, want %v, %d", ready, e, r, f)
	}
	holdSeen(t, w[0], seen(w[1]))
	holdObject(t, x.x, x.o.object)
	count[e]++
	if ready {
		count[-1]++
	}
	return ready
}

// TestLongRows holds Puts, several at a time, while all else is done to the drives, against the model.
func TestLongRows(t *testing.T) {
	seed := seeded(19)
	count := told{}
	for range 80 {
		most := 5 + seed.below(8)
		slots := 3 + seed.below(8)
		w := twins{drives(t, most, slots), drives(t, most, slots)}
		list := []pair{begin(t, &seed), begin(t, &seed), begin(t, &seed)}
		for range 250 {
			w.stir(&seed)
			at := seed.below(len(list))
			if !list[at].o.planned || seed.below(60) == 0 {
				list[at].plan(t, &seed, most+seed.below(20)/19, count)
			}
			ready := w.hold(t, list[at], count)
			// One that is ready, or that comes no farther, is followed by another, mostly.
			if ready && seed.below(3) > 0 || seed.below(60) == 0 {
				list[at] = begin(t, &seed)
			}
		}
	}
	for _, e := range []api.Errno{-1, api.OK, api.ErrArg, api.ErrFull, api.ErrLost, api.ErrDown, api.ErrTooFew} {
		if count[e] < 50 {
			t.Errorf("%d was told %d times alone", e, count[e])
		}
	}
}
