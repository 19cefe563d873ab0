package store

import (
	"fmt"
	"slices"
	"testing"

	"flitting/api"
	"flitting/plan"
)

// holdStates holds the drives' states, and the epoch's record.
func holdStates(t *testing.T, s *Store, epoch int, states ...int) {
	t.Helper()
	if got := s.Table().States(); !slices.Equal(got, states) || s.Table().Epoch() != epoch {
		t.Fatalf("states %v, epoch %d, want %v and %d", got, s.Table().Epoch(), states, epoch)
	}
	holdLast(t, s, api.Rec{Kind: api.RecPool, ID: epoch, Drives: states})
}

// Drives are added till there are as many as there may be.
func TestAdd(t *testing.T) {
	for many := 1; many <= api.MaxDrives; many++ {
		s := made(t, 1, 0, even(many, 1))
		for n := many; n < api.MaxDrives; n++ {
			holdOK(t, s, step(api.StepAdd, n))
			holdStates(t, s, n-many+2, in(n+1)...)
			if got := s.Pool().Drive(n).Cap(); got != n || s.Pool().Len() != n+1 {
				t.Errorf("drive %d has %d slots", n, got)
			}
		}
		holdRefused(t, s, api.ErrFull, step(api.StepAdd, 3))
		if many < api.MaxDrives {
			holdStates(t, s, 13-many, in(12)...)
		}
	}
}

// Slots of a drive that is added are as many as was said, the ends beyond; drives that are Gone count as drives.
func TestAddSlots(t *testing.T) {
	s := made(t, 1, 0, even(1, 1))
	for _, a := range far() {
		holdOK(t, s, step(api.StepAdd, a))
		if got, want := s.Pool().Drive(s.Pool().Len()-1).Cap(), min(max(a, 0), api.MaxCap); got != want {
			t.Errorf("%d slots, want %d", got, want)
		}
	}
	holdOK(t, s, step(api.StepDrain, 1), step(api.StepRemove, 1))
	for range 3 {
		holdOK(t, s, step(api.StepAdd, 1))
	}
	holdRefused(t, s, api.ErrFull, step(api.StepAdd, 1))
}

// A drive whose record is not committed is there, and Gone; the next one has a number of its own.
func TestAddFails(t *testing.T) {
	s := made(t, 2, 1, even(3, 9))
	put(t, s, "a", text)
	for n := range 2 {
		holdOK(t, s, step(api.StepFuse, 0))
		holdE(t, s, api.ErrDown, step(api.StepAdd, 9))
		holdOK(t, s, crash(0, 0))
		if !slices.Equal(s.Table().States(), in(3)) || s.Pool().Len() != 4+n || !s.Idle() {
			t.Fatalf("states %v, %d drives, idle %v", s.Table().States(), s.Pool().Len(), s.Idle())
		}
	}
	holdRefused(t, s, api.ErrNone, step(api.StepDrain, 3), step(api.StepRemove, 3), step(api.StepRemove, 4))
	holdOK(t, s, step(api.StepAdd, 99))
	holdStates(t, s, 2, api.In, api.In, api.In, api.Gone, api.Gone, api.In)
	holdOK(t, s, step(api.StepDrain, 0))
	holdStates(t, s, 3, api.Draining, api.In, api.In, api.Gone, api.Gone, api.In)
	settle(t, s)
	holdSettled(t, s)
	for _, n := range []int{3, 4} {
		if held := s.Pool().Held(n); len(held) > 0 {
			t.Errorf("drive %d has %v", n, held)
		}
	}
	if len(s.Pool().Held(5)) == 0 {
		t.Error("drive 5 has nothing")
	}
	holdGet(t, s, "a", text)
	holdOK(t, s, step(api.StepLose, 3))
	for s.Pool().Len() < api.MaxDrives {
		holdOK(t, s, step(api.StepAdd, 1))
	}
	holdRefused(t, s, api.ErrFull, step(api.StepAdd, 1))
}

// As many drives as there may be are no more, though records know of fewer.
func TestAddFailsFull(t *testing.T) {
	s := made(t, 2, 1, even(11, 9))
	holdOK(t, s, step(api.StepFuse, 0))
	holdE(t, s, api.ErrDown, step(api.StepAdd, 9))
	holdOK(t, s, crash(0, 0))
	holdRefused(t, s, api.ErrFull, step(api.StepAdd, 9))
	if len(s.Table().States()) != 11 || s.Pool().Len() != 12 {
		t.Errorf("states %v, %d drives", s.Table().States(), s.Pool().Len())
	}
	holdOK(t, s, step(api.StepDrain, 1))
	holdStates(t, s, 2, api.In, api.Draining, api.In, api.In, api.In, api.In, api.In, api.In, api.In, api.In, api.In, api.Gone)
}

// A record tells of each drive that there is, in a Remove, too.
func TestRemoveAfterAddFails(t *testing.T) {
	s := made(t, 2, 1, even(4, 9))
	holdOK(t, s, step(api.StepDrain, 1), step(api.StepFuse, 0))
	holdE(t, s, api.ErrDown, step(api.StepAdd, 9))
	holdOK(t, s, crash(0, 0), step(api.StepRemove, 1))
	holdStates(t, s, 3, api.In, api.Gone, api.In, api.In, api.Gone)
}

// Records that tell of more drives than there are: a new drive's number is whose state is In.
func TestAddUnknown(t *testing.T) {
	s := made(t, 1, 0, even(2, 9))
	all := api.Rec{Kind: api.RecAll, Size: 4, Drives: []int{api.In, api.Gone, api.Draining, api.Gone, api.In}}
	if e := spoil(t, s, all); e != api.OK {
		t.Fatal(e)
	}
	holdOK(t, s, step(api.StepAdd, 9))
	holdStates(t, s, 5, api.In, api.Gone, api.In, api.Gone, api.In)
	holdOK(t, s, step(api.StepAdd, 9))
	holdStates(t, s, 6, api.In, api.Gone, api.In, api.In, api.In)
	all.Drives = in(12)
	if e := spoil(t, s, all); e != api.OK {
		t.Fatal(e)
	}
	holdRefused(t, s, api.ErrFull, step(api.StepAdd, 9))
}

// A drive that is drained leaves k + m, or more, that are In.
func TestDrain(t *testing.T) {
	eachCode(func(k, m int) {
		many := k + m + 2
		s := made(t, k, m, even(many, 9))
		states := in(many)
		for _, n := range append(far(), many) {
			holdRefused(t, s, api.ErrNone, step(api.StepDrain, n))
		}
		for n := range 2 {
			at := many - 1 - 2*n
			holdOK(t, s, step(api.StepDrain, at))
			states[at] = api.Draining
			holdStates(t, s, 2+n, states...)
			holdRefused(t, s, api.ErrNone, step(api.StepDrain, at))
		}
		for n, state := range states {
			if state == api.In {
				holdRefused(t, s, api.ErrTooFew, step(api.StepDrain, n))
			}
		}
		holdOK(t, s, step(api.StepRemove, many-1))
		holdRefused(t, s, api.ErrNone, step(api.StepDrain, many-1))
		holdRefused(t, s, api.ErrTooFew, step(api.StepDrain, many-2))
	})
}

// A drive that is lost can be drained, too; and one that is lost is In yet.
func TestDrainLost(t *testing.T) {
	s := spread(t, 2, 1, 5, text)
	holdOK(t, s, step(api.StepLose, 0), step(api.StepDrain, 0))
	holdStates(t, s, 2, api.Draining, api.In, api.In, api.In, api.In)
	settle(t, s)
	holdSettled(t, s)
	holdOK(t, s, step(api.StepRemove, 0))
	holdStates(t, s, 3, api.Gone, api.In, api.In, api.In, api.In)
	holdOK(t, s, step(api.StepLose, 1), step(api.StepDrain, 1))
	holdRefused(t, s, api.ErrTooFew, step(api.StepDrain, 2))
	settle(t, s)
	holdSettled(t, s)
	holdGet(t, s, "a", text)
}

// A drive is removed, if it was drained, and has nothing that counts.
func TestRemove(t *testing.T) {
	s := spread(t, 1, 1, 4, text)
	for _, n := range append(far(), 4) {
		holdRefused(t, s, api.ErrNone, step(api.StepRemove, n))
	}
	for n := range 4 {
		holdRefused(t, s, api.ErrNotDrained, step(api.StepRemove, n))
	}
	holdOK(t, s, step(api.StepDrain, 3))
	holdRefused(t, s, api.ErrNotDrained, step(api.StepRemove, 3))
	for {
		stripes := s.Table().Stripes()
		has := slices.ContainsFunc(stripes, func(each api.Stripe) bool { return slices.Contains(each.Locs, 3) })
		if !has {
			break
		}
		holdRefused(t, s, api.ErrNotDrained, step(api.StepRemove, 3))
		holdOK(t, s, step(api.StepMove, 0))
	}
	holdOK(t, s, step(api.StepRemove, 3))
	holdStates(t, s, 3, api.In, api.In, api.In, api.Gone)
	holdRefused(t, s, api.ErrNone, step(api.StepRemove, 3))
	settle(t, s)
	holdSettled(t, s)
}

// A drive is not removed as long as a Put's plan has it.
func TestRemovePlanned(t *testing.T) {
	s := made(t, 2, 1, even(4, 9))
	began(t, s, api.Put, "a", "data", 0)
	began(t, s, api.Get, "a", "", 1)
	began(t, s, api.Put, "b", "", 2)
	target, _ := plan.Target(planTable(t, 4, 1), 16, 3)
	holdOK(t, s, step(api.StepDrain, target[2]))
	for range 6 {
		holdRefused(t, s, api.ErrNotDrained, step(api.StepRemove, target[2]))
		goes(t, s, 0, 1)
	}
	hold(t, s, step(api.StepRun, 0), api.Answer{Done: true, Mark: api.Changed})
	holdRefused(t, s, api.ErrNotDrained, step(api.StepRemove, target[2]))
	ends(t, s, 1)
	began(t, s, api.Del, "a", "", 0)
	ends(t, s, 0)
	holdOK(t, s, step(api.StepRemove, target[2]))
}

// A Put that has ended with an error has no plan any more.
func TestRemovePlanGone(t *testing.T) {
	s := made(t, 1, 0, even(2, 1))
	began(t, s, api.Put, "a", text, 0)
	holdOK(t, s, step(api.StepDrain, 1))
	holdRefused(t, s, api.ErrNotDrained, step(api.StepRemove, 1))
	if a := ends(t, s, 0); a.E != api.ErrFull {
		t.Fatalf("%+v", a)
	}
	holdOK(t, s, step(api.StepRemove, 1))
}

// under is a store with a move under way, and that move's stripe, its target, and a place that differs.
func under(t *testing.T) (s *Store, from api.Stripe, target []int, pos int) {
	t.Helper()
	s = spread(t, 2, 1, 4, "data")
	for range 8 {
		holdOK(t, s, step(api.StepAdd, 9))
		if wrong := plan.Wrong(s.Table(), 3); len(wrong) > 0 {
			from, _ = s.Table().Stripe(wrong[0])
			target, _ = plan.Target(s.Table(), wrong[0], 3)
			for from.Locs[pos] == target[pos] {
				pos++
			}
			holdOK(t, s, step(api.StepMove, 0))
			return s, from, target, pos
		}
	}
	t.Fatal("nothing is to be moved")
	return nil, api.Stripe{}, nil, 0
}

// A drive is not removed as long as the move under way has it, as where its stripe is or as its target, though its stripe be not there any more.
func TestRemoveMoving(t *testing.T) {
	s, from, target, pos := under(t)
	del(t, s, "a")
	for _, n := range []int{from.Locs[pos], target[pos]} {
		holdOK(t, s, step(api.StepAdd, 0), step(api.StepDrain, n))
		holdRefused(t, s, api.ErrNotDrained, step(api.StepRemove, n))
	}
	holdOK(t, s, step(api.StepMove, 0), step(api.StepRemove, target[pos]), step(api.StepRemove, from.Locs[pos]))
}

// The target of the move under way is drained, and not removed till the move is given up.
func TestRemoveTarget(t *testing.T) {
	s, _, target, pos := under(t)
	holdOK(t, s, step(api.StepDrain, target[pos]))
	holdRefused(t, s, api.ErrNotDrained, step(api.StepRemove, target[pos]))
	holdOK(t, s, step(api.StepMove, 0), step(api.StepRemove, target[pos]))
	settle(t, s)
	holdSettled(t, s)
	holdGet(t, s, "a", "data")
}

// A drive is lost once, and for ever.
func TestLose(t *testing.T) {
	s := spread(t, 2, 1, 4, "data")
	for _, n := range append(far(), 4) {
		holdRefused(t, s, api.ErrNone, step(api.StepLose, n))
	}
	was := records(t, s)
	for n := range 4 {
		holdOK(t, s, step(api.StepLose, n))
		for other := range 4 {
			if s.Pool().Drive(other).Lost() != (other <= n) {
				t.Errorf("Lose(%d): drive %d", n, other)
			}
		}
		holdRefused(t, s, api.ErrNone, step(api.StepLose, n))
	}
	if fmt.Sprint(records(t, s)) != fmt.Sprint(was) {
		t.Error("a Lose is in the log")
	}
	holdOK(t, s, crash(0, 0))
	holdRefused(t, s, api.ErrNone, step(api.StepLose, 3))
	holdWhole(t, s, api.Get, "a", "", api.Answer{E: api.ErrLost})
}

// A move begins in a step of its own, then does one thing each step, and is committed in the last one.
func TestMoveOneByOne(t *testing.T) {
	s, from, target, pos := under(t)
	differ := 0
	for n := range from.Locs {
		if from.Locs[n] != target[n] {
			differ++
		}
	}
	was := records(t, s)
	if len(s.Pool().Held(target[pos])) != 0 {
		t.Fatal("a move has done something as it began")
	}
	for n := range 3 * differ {
		holdOK(t, s, step(api.StepMove, 0))
		if len(s.Pool().Held(target[pos])) != 1 || fmt.Sprint(records(t, s)) != fmt.Sprint(was) || s.Idle() {
			t.Errorf("step %d: drive %d has %v", n, target[pos], s.Pool().Held(target[pos]))
		}
		if lasts := s.Pool().Lasts(target[pos], from.ID, pos); lasts != (n >= differ) {
			t.Errorf("step %d: lasts %v", n, lasts)
		}
		holdGet(t, s, "a", "data")
		holdSafe(t, s)
	}
	holdOK(t, s, step(api.StepMove, 0))
	moved := api.Stripe{ID: from.ID, Epoch: s.Table().Epoch(), Locs: target}
	holdLast(t, s, api.Rec{Kind: api.RecMove, Stripes: []api.Stripe{moved}})
	if got, _ := s.Table().Stripe(from.ID); fmt.Sprint(got) != fmt.Sprint(moved) || s.Idle() {
		t.Errorf("%+v, want %+v", got, moved)
	}
	holdSafe(t, s)
	for n := range differ {
		if s.Idle() {
			t.Errorf("idle, with %d strays", differ-n)
		}
		holdOK(t, s, step(api.StepMove, 0))
	}
	if !s.Idle() {
		t.Error("not idle")
	}
	holdRefused(t, s, api.OK, step(api.StepMove, 0), step(api.StepMove, 1))
	holdSettled(t, s)
}

// The epoch of a move is the one in which it is committed, not the one in which it began.
func TestMoveEpoch(t *testing.T) {
	s, from, target, _ := under(t)
	for n := range s.Table().States() {
		if !slices.Contains(target, n) {
			holdOK(t, s, step(api.StepDrain, n))
			break
		}
	}
	settle(t, s)
	if got, _ := s.Table().Stripe(from.ID); got.Epoch != s.Table().Epoch() || !slices.Equal(got.Locs, target) {
		t.Errorf("%+v, epoch %d, target %v", got, s.Table().Epoch(), target)
	}
}

// Of those that are to be moved the least one is the next.
func TestMoveLeast(t *testing.T) {
	s := spread(t, 2, 1, 4, text, text, text[:20])
	for range 4 {
		holdOK(t, s, step(api.StepAdd, api.MaxCap))
	}
	for wrong := plan.Wrong(s.Table(), 3); len(wrong) > 0; wrong = plan.Wrong(s.Table(), 3) {
		holdOK(t, s, step(api.StepMove, 0))
		for slices.Equal(plan.Wrong(s.Table(), 3), wrong) {
			holdOK(t, s, step(api.StepMove, 0))
		}
		if now := plan.Wrong(s.Table(), 3); !slices.Equal(now, wrong[1:]) {
			t.Fatalf("to be moved are %v, were %v", now, wrong)
		}
	}
	settle(t, s)
	holdSettled(t, s)
}

// A move is given up, if its stripe is not there any more, or its target is not where it should be any more; nothing else is done in that step.
func TestMoveGivenUp(t *testing.T) {
	ways := map[string]func(s *Store, target []int, pos int){
		"del":   func(s *Store, _ []int, _ int) { del(t, s, "a") },
		"put":   func(s *Store, _ []int, _ int) { put(t, s, "a", "other") },
		"empty": func(s *Store, _ []int, _ int) { put(t, s, "a", "") },
		"drain": func(s *Store, target []int, pos int) { holdOK(t, s, step(api.StepDrain, target[pos])) },
	}
	for name, way := range ways {
		for steps := range 4 {
			s, _, target, pos := under(t)
			for range steps {
				holdOK(t, s, step(api.StepMove, 0))
			}
			way(s, target, pos)
			was, want := seen(s), reading(s)
			holdOK(t, s, step(api.StepMove, 0))
			now := seen(s)
			// Nothing is left of it, so that the store may be idle.
			now[1], was[1] = "", ""
			if !slices.Equal(now, was) || len(s.Parked()) != 0 || s.move != nil {
				t.Errorf("%s behind %d steps: something was done, or parked", name, steps)
			}
			settle(t, s)
			holdSettled(t, s)
			if got := reading(s); fmt.Sprint(got) != fmt.Sprint(want) {
				t.Errorf("%s behind %d steps: %v, want %v", name, steps, got, want)
			}
		}
	}
}

// A stripe that is where it should be again, since the drives are others, is not moved.
func TestMoveBack(t *testing.T) {
	s, from, target, pos := under(t)
	holdOK(t, s, step(api.StepMove, 0), step(api.StepDrain, target[pos]))
	if got := settle(t, s); got != 2 {
		t.Errorf("%d steps, want one that gives it up, and one for a stray", got)
	}
	if got, _ := s.Table().Stripe(from.ID); !slices.Equal(got.Locs, from.Locs) {
		t.Errorf("%+v, want %v", got, from.Locs)
	}
}

// parked is a store in which a stripe is parked, since its target has no room.
func parked(t *testing.T) *Store {
	t.Helper()
	s := spread(t, 1, 1, 3, text[:40], text[:24])
	holdOK(t, s, step(api.StepAdd, 0))
	var e api.Errno
	for range 1000 {
		e = s.Do(step(api.StepMove, 0)).E
		if e != api.OK {
			break
		}
	}
	if e != api.ErrFull {
		t.Fatalf("error %d", e)
	}
	return s
}

// rest has the migration go on till nothing is left but what is parked, and is how many errors of that number it met.
func rest(t *testing.T, s *Store, want api.Errno) int {
	t.Helper()
	errors := 0
	for range 10000 {
		if s.Idle() {
			return errors
		}
		a := s.Do(step(api.StepMove, 0))
		if a.E == want {
			errors++
		} else if !same(a, api.Answer{}) {
			t.Fatalf("%+v", a)
		}
	}
	t.Fatal("the migration has no end")
	return 0
}

// A stripe whose target has no room is parked, and stays where it is; the others are moved on.
func TestParked(t *testing.T) {
	s := parked(t)
	wrong := plan.Wrong(s.Table(), 2)
	if !slices.Equal(s.Parked(), wrong[:1]) || s.Idle() {
		t.Fatalf("parked %v, to be moved %v", s.Parked(), wrong)
	}
	holdSafe(t, s)
	if more := rest(t, s, api.ErrFull); more != len(wrong)-1 {
		t.Errorf("%d more are parked, of %v", more, wrong)
	}
	if !slices.Equal(s.Parked(), wrong) || !slices.Equal(plan.Wrong(s.Table(), 2), wrong) || len(wrong) < 2 {
		t.Errorf("parked %v, to be moved %v", s.Parked(), wrong)
	}
	holdSafe(t, s)
	holdRefused(t, s, api.OK, step(api.StepMove, 0))
	holdGet(t, s, "a", text[:40])
	holdGet(t, s, "b", text[:24])
}

// What is parked is so till the drives are others: one that is refused changes nothing of it.
func TestParkedTill(t *testing.T) {
	ways := map[string]api.Step{
		"add":    step(api.StepAdd, 99),
		"drain":  step(api.StepDrain, 3),
		"remove": step(api.StepRemove, 2),
		"lose":   step(api.StepLose, 3),
		"crash":  crash(0, 0),
	}
	for name, way := range ways {
		s := spread(t, 1, 1, 3, text[:40], text[:24])
		holdOK(t, s, step(api.StepAdd, 9), step(api.StepDrain, 2))
		settle(t, s)
		holdOK(t, s, step(api.StepAdd, 0))
		rest(t, s, api.ErrFull)
		was := s.Parked()
		if len(was) < 2 {
			t.Fatalf("parked %v", was)
		}
		began(t, s, api.List, "", "", 0)
		holdRefused(t, s, api.ErrNone, step(api.StepLose, 9), step(api.StepDrain, 2), step(api.StepRemove, 9))
		holdRefused(t, s, api.ErrNotDrained, step(api.StepRemove, 0))
		holdOK(t, s, step(api.StepMove, 0), step(api.StepFuse, 99))
		put(t, s, "c", "")
		del(t, s, "c")
		if !slices.Equal(s.Parked(), was) {
			t.Errorf("%s: parked %v, was %v", name, s.Parked(), was)
		}
		holdOK(t, s, way)
		if len(s.Parked()) != 0 {
			t.Errorf("%s: parked %v", name, s.Parked())
		}
	}
}

// A change of the drives that fails in its commit leaves what is parked.
func TestParkedCommit(t *testing.T) {
	s := spread(t, 1, 1, 3, text[:40])
	holdOK(t, s, step(api.StepAdd, 0))
	rest(t, s, api.ErrFull)
	was := s.Parked()
	s.Tape().Lose(0)
	s.Tape().Lose(1)
	holdE(t, s, api.ErrLost, step(api.StepAdd, 9), step(api.StepDrain, 3))
	if !slices.Equal(s.Parked(), was) || len(was) == 0 {
		t.Errorf("parked %v, was %v", s.Parked(), was)
	}
}

// Where there is room again, what was parked is moved.
func TestParkedMoved(t *testing.T) {
	s := parked(t)
	rest(t, s, api.ErrFull)
	holdOK(t, s, step(api.StepDrain, 3), step(api.StepAdd, 99))
	settle(t, s)
	holdSettled(t, s)
	holdGet(t, s, "a", text[:40])
}

// A stripe that can not be read, or whose target is lost, is parked, too; the drives of the others are none the worse.
func TestParkedLost(t *testing.T) {
	s := spread(t, 2, 1, 4, text, text[:60])
	holdOK(t, s, step(api.StepLose, 0), step(api.StepLose, 1), step(api.StepDrain, 0))
	if rest(t, s, api.ErrLost) == 0 || len(s.Parked()) == 0 {
		t.Errorf("parked %v", s.Parked())
	}
	s = spread(t, 2, 1, 4, text, text[:60])
	holdOK(t, s, step(api.StepAdd, 99), step(api.StepLose, 4))
	if rest(t, s, api.ErrLost) == 0 || len(s.Parked()) == 0 {
		t.Errorf("parked %v", s.Parked())
	}
	holdSafe(t, s)
	holdGet(t, s, "a", text)
	holdOK(t, s, step(api.StepDrain, 4))
	if rest(t, s, api.OK); len(s.Parked()) != 0 {
		t.Errorf("parked %v", s.Parked())
	}
	holdSettled(t, s)
}

// A move whose target has another shard than it should, behind its Flush: ErrCorrupt, and it is parked; what counts is unharmed.
func TestParkedCorrupt(t *testing.T) {
	s, from, target, pos := under(t)
	differ := 0
	for n := range target {
		if target[n] != from.Locs[n] {
			differ++
		}
	}
	for range 2 * differ {
		holdOK(t, s, step(api.StepMove, 0))
	}
	if e := s.Pool().Store(target[pos], from.ID, pos, []byte("no shard")); e != api.OK {
		t.Fatal(e)
	}
	holdE(t, s, api.ErrCorrupt, step(api.StepMove, 0))
	if !slices.Equal(s.Parked(), []int{from.ID}) || s.move != nil {
		t.Errorf("parked %v", s.Parked())
	}
	holdGet(t, s, "a", "data")
	rest(t, s, api.OK)
	holdSafe(t, s)
	holdOK(t, s, crash(0, 0))
	settle(t, s)
	holdSettled(t, s)
}

// Shards at no stripe's place are taken away one a step, drive by drive; those of a Put under way are not.
func TestStray(t *testing.T) {
	s := spread(t, 1, 1, 3, "data")
	began(t, s, api.Put, "b", "more data", 0)
	goes(t, s, 0, 8)
	if s.Idle() {
		t.Error("idle, with a task")
	}
	holdRefused(t, s, api.OK, step(api.StepMove, 0))
	for _, at := range [][3]int{{2, 7, 1}, {0, 16, 9}, {1, 7, 7}, {1, 1 << 30, 255}} {
		if e := s.Pool().Store(at[0], at[1], at[2], []byte("stray")); e != api.OK {
			t.Fatal(e)
		}
	}
	shards := func() (all []int) {
		for n := range 3 {
			all = append(all, len(s.Pool().Held(n)), s.Pool().Drive(n).Loose())
		}
		return all
	}
	was := shards()
	for _, n := range []int{0, 1, 1, 2} {
		holdOK(t, s, step(api.StepMove, 0))
		was[2*n]--
		was[2*n+1] = 0
		if now := shards(); !slices.Equal(now, was) {
			t.Fatalf("%v, want %v", now, was)
		}
	}
	holdRefused(t, s, api.OK, step(api.StepMove, 0))
	ends(t, s, 0)
	if !s.Idle() {
		t.Error("not idle")
	}
	holdSettled(t, s)
	holdGet(t, s, "b", "more data")
}

// A Put that ends with an error leaves strays, and nothing behind them.
func TestStrayOfPut(t *testing.T) {
	s := made(t, 2, 1, even(3, 3))
	began(t, s, api.Put, "a", text[:64], 0)
	if a := ends(t, s, 0); a.E != api.ErrFull {
		t.Fatalf("%+v", a)
	}
	if s.Idle() || settle(t, s) != 9 {
		t.Error("the strays are not taken away one by one")
	}
	holdSettled(t, s)
	put(t, s, "a", text[:48])
	holdSafe(t, s)
}

// What is to be moved comes ahead of what is astray.
func TestMoveAheadOfStray(t *testing.T) {
	s, from, target, _ := under(t)
	if e := s.Pool().Store(0, 3, 3, nil); e != api.OK {
		t.Fatal(e)
	}
	for {
		if held := s.Pool().Held(0); !slices.Contains(held, [2]int{3, 3}) {
			t.Fatal("the stray is gone first")
		}
		if now, _ := s.Table().Stripe(from.ID); slices.Equal(now.Locs, target) {
			break
		}
		holdOK(t, s, step(api.StepMove, 0))
	}
	settle(t, s)
	holdSettled(t, s)
}

// Idle: no task, no move, nothing to be moved but what is parked, and no stray.
func TestIdle(t *testing.T) {
	s := made(t, 1, 1, even(3, 9))
	holdIdle(t, s, true)
	began(t, s, api.List, "", "", 0)
	holdIdle(t, s, false)
	ends(t, s, 0)
	holdIdle(t, s, true)
	put(t, s, "a", "data")
	holdIdle(t, s, true)
	del(t, s, "a")
	holdIdle(t, s, false)
	settle(t, s)
	holdIdle(t, s, true)
	s, _, _, _ = under(t)
	holdIdle(t, s, false)
	del(t, s, "a")
	for n := range 12 {
		for _, held := range s.Pool().Held(n) {
			if e := s.Pool().Erase(n, held[0], held[1]); e != api.OK {
				t.Fatal(e)
			}
		}
	}
	// Nothing is there any more, but the move under way.
	holdIdle(t, s, false)
	holdOK(t, s, step(api.StepMove, 0))
	holdIdle(t, s, true)
	s = parked(t)
	holdIdle(t, s, false)
	rest(t, s, api.ErrFull)
	holdIdle(t, s, true)
	began(t, s, api.Get, "a", "", 0)
	holdIdle(t, s, false)
}

func holdIdle(t *testing.T, s *Store, want bool) {
	t.Helper()
	if got := s.Idle(); got != want {
		t.Fatalf("idle %v, want %v", got, want)
	}
}

// Parked is rising, in whatever order they were parked.
func TestParkedRising(t *testing.T) {
	s := spread(t, 1, 1, 3, text, text, text)
	holdOK(t, s, step(api.StepAdd, 0))
	rest(t, s, api.ErrFull)
	if list := s.Parked(); len(list) < 9 || !slices.IsSorted(list) {
		t.Errorf("parked %v", list)
	}
}
