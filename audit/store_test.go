package audit

import (
	"slices"
	"testing"

	"flitting/api"
	"flitting/pool"
	"flitting/store"
)

// home is a store, and what k and m it has.
type home struct {
	*store.Store
	k, m int
}

func newHome(t *testing.T, k, m int, slots ...int) home {
	t.Helper()
	s, e := store.New(k, m, slots)
	if e != api.OK {
		t.Fatalf("New(%d, %d, %v) = %d", k, m, slots, e)
	}
	return home{s, k, m}
}

// holdSafe holds that all is safe, and that of each stripe m shards may be lost.
func (h home) holdSafe(t *testing.T, behind api.Step) {
	t.Helper()
	if !Safe(h.Pool(), h.Table(), h.k, h.m) {
		t.Fatalf("behind %+v not Safe: %v, drives %v", behind, h.Table().Stripes(), h.Table().States())
	}
	for _, s := range h.Table().Stripes() {
		holdMargin(t, h.m, h.Pool(), s, h.k)
	}
}

// do has the store do all steps, and is safe behind each.
func (h home) do(t *testing.T, steps ...api.Step) api.Answer {
	t.Helper()
	var a api.Answer
	for _, x := range steps {
		a = h.Do(x)
		h.holdSafe(t, x)
	}
	return a
}

// put has a client put something, to its end.
func (h home) put(t *testing.T, key, data string) {
	t.Helper()
	a := h.do(t, api.Step{Kind: api.StepCall, A: api.Put, Key: key, Data: []byte(data)})
	for run := (api.Step{Kind: api.StepRun, A: a.Task}); a.E == api.OK && !a.Done; {
		a = h.do(t, run)
	}
	if a.E != api.OK {
		t.Fatalf("Put of %q ended with %d", key, a.E)
	}
}

// settle has the migration go on till there is nothing to do, and is how many steps that took.
func (h home) settle(t *testing.T) int {
	t.Helper()
	for n := range 5000 {
		if h.Idle() {
			return n
		}
		h.Do(api.Step{Kind: api.StepMove})
	}
	t.Fatal("the migration has no end")
	return 0
}

// P4: all that is not well is what the migration has yet to do; then all is placed, and clean.
func TestStoreSettles(t *testing.T) {
	eachCode(func(k, m int) {
		h := newHome(t, k, m, slices.Repeat([]int{60}, k+m)...)
		h.put(t, "a", "some data of more than one stripe, or of more than two of them")
		h.put(t, "b", "more")
		holdPlaced(t, true, h.Table(), k+m)
		holdClean(t, true, h.Pool(), h.Table())
		h.do(t, api.Step{Kind: api.StepAdd, A: 60}, api.Step{Kind: api.StepDrain, A: 0})
		holdPlaced(t, false, h.Table(), k+m)
		seen := 0
		for !h.Idle() {
			h.do(t, api.Step{Kind: api.StepMove})
			if Placed(h.Table(), k+m) && !Clean(h.Pool(), h.Table()) {
				seen++
			}
			if Placed(h.Table(), k+m) && Clean(h.Pool(), h.Table()) != h.Idle() {
				t.Fatalf("Idle() = %v", h.Idle())
			}
		}
		holdPlaced(t, true, h.Table(), k+m)
		holdClean(t, true, h.Pool(), h.Table())
		if seen == 0 {
			t.Error("what was left behind was not seen")
		}
		h.do(t, api.Step{Kind: api.StepRemove, A: 0})
	})
}

// P3: any m drives may be lost, and of each stripe k shards are left; of one more, not of all.
func TestStoreLoses(t *testing.T) {
	eachCode(func(k, m int) {
		for lost := range 1 << (k + m) {
			h := newHome(t, k, m, slices.Repeat([]int{60}, k+m)...)
			h.put(t, "a", "some data")
			many := 0
			for n := range k + m {
				if lost>>n&1 == 1 {
					h.Do(api.Step{Kind: api.StepLose, A: n})
					many++
				}
			}
			holdSafe(t, many == 0, h.Pool(), h.Table(), k, m)
			holdClean(t, true, h.Pool(), h.Table())
			for _, s := range h.Table().Stripes() {
				holdMargin(t, m-many, h.Pool(), s, k)
			}
			get := h.Do(api.Step{Kind: api.StepCall, A: api.Get, Key: "a"})
			for run := (api.Step{Kind: api.StepRun, A: get.Task}); !get.Done; {
				get = h.Do(run)
			}
			if want := many <= m; (get.E == api.OK) != want {
				t.Errorf("%d of %d and %d drives are lost: %+v", many, k, m, get)
			}
		}
	})
}

// Example 7: a drive is lost, and drained: its shards are made anew on others, and all is safe again.
func TestStoreAnew(t *testing.T) {
	h := newHome(t, 2, 2, 60, 60, 60, 60, 60)
	h.put(t, "a", "some data of more than one stripe")
	h.Do(api.Step{Kind: api.StepLose, A: 1})
	holdSafe(t, false, h.Pool(), h.Table(), 2, 2)
	holdPlaced(t, true, h.Table(), 4)
	h.Do(api.Step{Kind: api.StepDrain, A: 1})
	holdSafe(t, false, h.Pool(), h.Table(), 2, 2)
	holdPlaced(t, false, h.Table(), 4)
	h.settle(t)
	h.holdSafe(t, api.Step{})
	holdPlaced(t, true, h.Table(), 4)
	holdClean(t, true, h.Pool(), h.Table())
	h.do(t, api.Step{Kind: api.StepRemove, A: 1})
}

// Example 8: a target has no room: the stripe is parked, not placed, but safe.
func TestStoreParked(t *testing.T) {
	h := newHome(t, 2, 1, 60, 60, 60)
	for n := range 9 {
		h.put(t, string(rune('a'+n)), "some data of more than one stripe")
	}
	h.do(t, api.Step{Kind: api.StepAdd, A: 0})
	h.settle(t)
	h.holdSafe(t, api.Step{})
	holdPlaced(t, len(h.Parked()) == 0, h.Table(), 3)
	holdClean(t, true, h.Pool(), h.Table())
	if len(h.Parked()) == 0 {
		t.Error("nothing is parked")
	}
}

// What a Put has stored, but not committed, is astray; once it is, that is at its place, and lasts.
func TestStoreUnderWay(t *testing.T) {
	h := newHome(t, 2, 1, 9, 9, 9)
	a := h.do(t, api.Step{Kind: api.StepCall, A: api.Put, Key: "a", Data: []byte("some data")})
	run := api.Step{Kind: api.StepRun, A: a.Task}
	holdClean(t, true, h.Pool(), h.Table())
	for !h.do(t, run).Done {
		holdClean(t, false, h.Pool(), h.Table())
	}
	holdClean(t, true, h.Pool(), h.Table())
	h.do(t, api.Step{Kind: api.StepCrash})
	holdClean(t, true, h.Pool(), h.Table())
}

// ask is a step that clients, the migration, changes of the drives or the power have a store do.
func (s *seeded) ask() api.Step {
	switch n := s.below(400); {
	case n < 70:
		data := slices.Repeat([]byte{byte('a' + s.below(26)), byte(s.below(256))}, s.below(30))
		op := []int{api.Put, api.Put, api.Put, api.Del, api.Get}[s.below(5)]
		return api.Step{Kind: api.StepCall, A: op, Key: string(rune('a' + s.below(5))), Data: data}
	case n < 260:
		return api.Step{Kind: api.StepRun, A: s.below(api.MaxTasks)}
	case n < 388:
		return api.Step{Kind: api.StepMove}
	case n < 390:
		return api.Step{Kind: api.StepAdd, A: s.below(40)}
	case n < 394:
		return api.Step{Kind: api.StepDrain, A: s.below(12)}
	case n < 396:
		return api.Step{Kind: api.StepRemove, A: s.below(12)}
	case n < 398:
		return api.Step{Kind: api.StepFuse, A: s.below(40)}
	}
	return s.crash()
}

func (s *seeded) crash() api.Step {
	return api.Step{Kind: api.StepCrash, A: s.below(90), Keep: uint64(s.below(1<<30))<<34 | uint64(s.below(1<<30))}
}

// moments is how often a store was seen so: with what is Wrong, with what is astray, or as it should be.
type moments struct {
	wrong, stray, well int
}

func (c *moments) see(h home) {
	placed, clean := Placed(h.Table(), h.k+h.m), Clean(h.Pool(), h.Table())
	if !placed {
		c.wrong++
	}
	if !clean {
		c.stray++
	}
	if placed && clean {
		c.well++
	}
}

// P3: behind each step, and each crash, of long rows of them, all is safe; P4: when nobody changes anything any more, it is as it should be.
func TestStore(t *testing.T) {
	t.Parallel()
	var count moments
	for seed := range seeded(60) {
		s, k, m := seed, 1+int(seed)%4, int(seed)/4%4
		h := newHome(t, k, m, slices.Repeat([]int{60}, min(k+m+s.below(4), api.MaxDrives))...)
		for range 400 {
			if h.do(t, s.ask()).E == api.ErrDown {
				h.do(t, s.crash())
			}
			count.see(h)
		}
		h.do(t, api.Step{Kind: api.StepCrash})
		h.settle(t)
		h.holdSafe(t, api.Step{})
		holdPlaced(t, len(h.Parked()) == 0, h.Table(), k+m)
		holdClean(t, true, h.Pool(), h.Table())
		spoil(t, &s, h)
	}
	if count.wrong < 500 || count.stray < 500 || count.well < 500 {
		t.Errorf("%+v", count)
	}
}

// spoil makes one thing unwell, of all that is well.
func spoil(t *testing.T, s *seeded, h home) {
	t.Helper()
	all := h.Table().Stripes()
	if len(all) == 0 {
		return
	}
	each := all[s.below(len(all))]
	pos := s.below(h.k + h.m)
	n, p := each.Locs[pos], h.Pool()
	b, e := p.Load(n, each.ID, pos)
	if e != api.OK {
		t.Fatalf("Load = %d", e)
	}
	b[s.below(8)] ^= byte(1 + s.below(255))
	flushed(t, p, n, each.ID, pos, b)
	holdSafe(t, h.m == 0, p, h.Table(), h.k, h.m)
	holdMargin(t, h.m, p, each, h.k)
	holdClean(t, true, p, h.Table())
	erase(t, p, n, each.ID, pos)
	holdSafe(t, false, p, h.Table(), h.k, h.m)
	holdMargin(t, h.m-1, p, each, h.k)
	litter(t, s, h, p)
}

// litter puts a shard where none should be.
func litter(t *testing.T, s *seeded, h home, p *pool.Pool) {
	t.Helper()
	holdClean(t, true, p, h.Table())
	n := s.below(p.Len())
	if p.Free(n) > 0 {
		flushed(t, p, n, s.below(api.MaxID), 7+s.below(249), nil)
		holdClean(t, false, p, h.Table())
	}
}
