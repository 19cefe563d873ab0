package store

import (
	"fmt"
	"maps"
	"slices"
	"testing"

	"flitting/api"
	"flitting/plan"
)

// asked is a client's call under way, and what it saw when it last looked.
type asked struct {
	x    api.Step
	had  bool
	data string
}

// world is a map on which calls are done one after the other, at the moments that the marks tell, beside the store that they are asked of.
type world struct {
	s     *Store
	data  map[string]string
	calls map[int]*asked
	doubt *asked // what was to be committed when the power went
	lost  int    // drives
}

// with is the map with a call done on it.
func (w *world) with(c *asked) map[string]string {
	data := maps.Clone(w.data)
	if c.x.A == api.Put {
		data[c.x.Key] = string(c.x.Data)
	} else {
		delete(data, c.x.Key)
	}
	return data
}

// look has a call see the map as it is now.
func (w *world) look(c *asked) {
	c.data, c.had = w.data[c.x.Key]
}

// right tells whether a call's last answer is what the map would have it be.
func (w *world) right(c *asked, a api.Answer) bool {
	switch {
	case a.Mark == api.Looked:
		w.look(c)
	case a.Mark == api.Changed:
		w.look(c)
		w.data = w.with(c)
	}
	switch c.x.A {
	case api.Put:
		return a.E == api.OK && a.Mark == api.Changed || a.Mark == api.Nothing && slices.Contains([]api.Errno{api.ErrFull, api.ErrLost, api.ErrDown}, a.E)
	case api.Del:
		return a.E == api.OK && c.had && a.Mark == api.Changed || a.E == api.ErrNone && !c.had && a.Mark == api.Looked || a.E == api.ErrDown
	case api.List:
		return a.E == api.OK && a.Mark == api.Looked && slices.Equal(a.Keys, slices.Sorted(maps.Keys(w.data)))
	}
	return a.E == api.OK && c.had && string(a.Data) == c.data || a.E == api.ErrNone && !c.had && a.Mark == api.Looked
}

// do does a step, and holds its answer against the map.
func (w *world) do(t *testing.T, x api.Step) {
	t.Helper()
	a := w.s.Do(x)
	switch {
	case x.Kind == api.StepCall && a.E == api.OK:
		w.calls[a.Task] = &asked{x: x}
	case x.Kind == api.StepRun && a.Done:
		c := w.calls[x.A]
		delete(w.calls, x.A)
		if a.E == api.ErrDown {
			w.doubt = c
		}
		if !w.right(c, a) {
			t.Fatalf("%+v ended with %+v", c, a)
		}
	case x.Kind == api.StepRun && a.Mark == api.Looked:
		w.look(w.calls[x.A])
	case x.Kind == api.StepCrash:
		w.crashed(t, a)
	}
	if got := reading(w.s); !maps.Equal(got, w.data) {
		t.Fatalf("behind %+v, %+v there is %q, want %q", x, a, got, w.data)
	}
	if w.lost == 0 {
		holdSafe(t, w.s)
	}
}

// crashed has what was in doubt be wholly, or not at all; all calls have come to nothing.
func (w *world) crashed(t *testing.T, a api.Answer) {
	t.Helper()
	if a.E != api.OK {
		t.Fatalf("Crash: %+v", a)
	}
	if w.doubt != nil && maps.Equal(reading(w.s), w.with(w.doubt)) {
		w.data = w.with(w.doubt)
	}
	w.calls, w.doubt = map[int]*asked{}, nil
}

// mayLose tells whether a drive can be lost, so that of no stripe that counts, or is to, more than m shards are.
func (w *world) mayLose(n int) bool {
	if w.s.Pool().Drive(n) == nil {
		return false
	}
	all := slices.Concat(w.s.Table().Stripes(), w.s.plans(), []api.Stripe{w.s.move.Stripe(), {Locs: w.s.move.Target()}})
	for _, each := range all {
		lost := 0
		for _, on := range each.Locs {
			if on == n || w.s.Pool().Drive(on).Lost() {
				lost++
			}
		}
		if lost > w.s.m {
			return false
		}
	}
	return true
}

// next is a step that leaves no more drives lost than may be.
func (w *world) next(s *seeded, loses bool) api.Step {
	for {
		x := s.any()
		if x.Kind != api.StepLose {
			return x
		}
		if loses && w.mayLose(x.A) {
			w.lost++
			return x
		}
	}
}

// settled holds that, when nobody changes anything any more, all comes to where it should be, but what has no room.
func (w *world) settled(t *testing.T) {
	t.Helper()
	w.do(t, crash(0, 0))
	for n := 0; !w.s.Idle(); n++ {
		a := w.s.Do(step(api.StepMove, 0))
		if a.E != api.OK && a.E != api.ErrFull && a.E != api.ErrLost || n > 5000 {
			t.Fatalf("%d steps, then %+v", n, a)
		}
		if w.lost == 0 {
			holdSafe(t, w.s)
		}
	}
	if wrong := plan.Wrong(w.s.Table(), w.s.shards()); !slices.Equal(wrong, w.s.Parked()) {
		t.Fatalf("%v are not at their targets, %v are parked", wrong, w.s.Parked())
	}
	if _, _, _, stray := plan.Stray(w.s.Pool(), w.s.Table(), nil); stray {
		t.Fatal("some are astray")
	}
	for key, data := range w.data {
		holdGet(t, w.s, key, data)
	}
}

// P1 to P5: long rows of all that there may be: each call is as if done at one moment, whatever crashes there are, and all is safe behind each step.
func TestPromises(t *testing.T) {
	t.Parallel()
	s := seeded(7)
	changed, lost := 0, 0
	for row := range 300 {
		k, m := 1+s.below(4), s.below(4)
		w := &world{s: made(t, k, m, even(min(k+m+s.below(4), 12), 20+s.below(20))), data: map[string]string{}, calls: map[int]*asked{}}
		was := ""
		for range 450 {
			w.do(t, w.next(&s, row%3 == 0))
			if now := fmt.Sprint(w.data); now != was {
				was = now
				changed++
			}
		}
		w.settled(t)
		lost += w.lost
	}
	if changed < 600 || lost < 30 {
		t.Errorf("%d changes, %d drives lost", changed, lost)
	}
}

// P4. When there is room, it takes so many steps, and no more: of each stripe one, three for each shard that is brought elsewhere, and one; and one for each shard that is left behind.
func TestSteps(t *testing.T) {
	eachCode(func(k, m int) {
		s := spread(t, k, m, k+m+1, text, text[:40], "data")
		holdOK(t, s, step(api.StepAdd, api.MaxCap), step(api.StepDrain, 0))
		want := 0
		for _, id := range plan.Wrong(s.Table(), k+m) {
			from, _ := s.Table().Stripe(id)
			target, _ := plan.Target(s.Table(), id, k+m)
			want += 2
			for n := range target {
				if from.Locs[n] != target[n] {
					want += 4
				}
			}
		}
		if got := settle(t, s); got != want {
			t.Errorf("%d steps, want %d", got, want)
		}
		holdSettled(t, s)
		holdOK(t, s, step(api.StepRemove, 0))
	})
}

// P5. No drive has more than its slots, however much is put.
func TestRoom(t *testing.T) {
	s := made(t, 2, 1, []int{4, 9, 2, 6})
	full := 0
	for n := range 60 {
		a := whole(t, s, api.Put, string(rune('a'+n%7)), text[:n])
		if a.E == api.ErrFull {
			full++
		} else if a.E != api.OK {
			t.Fatalf("%+v", a)
		}
		for range 2 {
			holdOK(t, s, step(api.StepMove, 0))
		}
		for at, slots := range []int{4, 9, 2, 6} {
			if free, held := s.Pool().Free(at), len(s.Pool().Held(at)); free+held != slots {
				t.Fatalf("drive %d: %d are free, %d held", at, free, held)
			}
		}
		holdSafe(t, s)
	}
	if full < 20 {
		t.Errorf("%d Puts had no room", full)
	}
}
