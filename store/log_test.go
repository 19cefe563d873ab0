package store

import (
	"fmt"
	"reflect"
	"slices"
	"strings"
	"testing"

	"flitting/api"
	"flitting/plan"
	"flitting/tape"
	"flitting/wal"
)

// entries is records as the bytes of a log.
func entries(t *testing.T, list ...api.Rec) []byte {
	t.Helper()
	two := tape.New()
	l, _, _ := wal.Open(two)
	for _, r := range list {
		if e := l.Append(r); e != api.OK {
			t.Fatalf("Append(%+v) = %d", r, e)
		}
	}
	b, _ := two.Read(0)
	return b
}

// entry is a record as the bytes of a log; nothing, if it is none.
func entry(r api.Rec) []byte {
	two := tape.New()
	l, _, _ := wal.Open(two)
	l.Append(r)
	b, _ := two.Read(0)
	return b
}

// filled has the log of s so full that so many bytes are left; what is there is the same, but for objects of nothing whose keys are of f alone.
func filled(t *testing.T, s *Store, left int) {
	t.Helper()
	list := records(t, s)
	version := s.Table().Last()
	add := func(size int) {
		version++
		// The entry of an object of nothing has so many bytes beside its key.
		list = append(list, api.Rec{Kind: api.RecPut, ID: version, Key: strings.Repeat("f", size-22)})
	}
	over := api.MaxTape - left - len(entries(t, list...))
	for ; over > 3*38; over -= 38 {
		add(38)
	}
	// What is over is from 77 to 114 bytes: three entries.
	for n := 3; n > 0; n-- {
		size := over / n
		add(size)
		over -= size
	}
	if e := spoil(t, s, list...); e != api.OK {
		t.Fatal(e)
	}
	if b, _ := s.Tape().Read(0); len(b) != api.MaxTape-left {
		t.Fatalf("%d bytes, not %d are left", len(b), left)
	}
}

// changes are steps of each kind that commit one record, on a store that ready makes: ahead of it those that lead there.
func changes() map[string][]api.Step {
	return map[string][]api.Step{
		"put":    {call(api.Put, "new", ""), step(api.StepRun, 0)},
		"del":    {call(api.Del, "a", ""), step(api.StepRun, 0)},
		"add":    {step(api.StepAdd, 5)},
		"drain":  {step(api.StepDrain, 2)},
		"remove": {step(api.StepRemove, 3)},
		"move":   slices.Repeat([]api.Step{step(api.StepMove, 0)}, 5),
	}
}

// ready is a store in which each of these can be done; its first move has one place that differs, so that it is committed in the fifth step.
func ready(t *testing.T) *Store {
	t.Helper()
	s := made(t, 1, 1, even(4, 9))
	put(t, s, "a", "data")
	holdOK(t, s, step(api.StepDrain, 3))
	settle(t, s)
	for n := range 8 {
		holdOK(t, s, step(api.StepAdd, 9))
		if len(plan.Wrong(s.Table(), 2)) > 0 {
			break
		}
		if n == 7 {
			t.Fatal("nothing is to be moved")
		}
	}
	return s
}

// leads does all but the last step.
func leads(t *testing.T, s *Store, steps []api.Step) (last api.Step) {
	t.Helper()
	for _, x := range steps[:len(steps)-1] {
		if a := s.Do(x); a.E != api.OK || a.Done {
			t.Fatalf("Do(%+v) = %+v", x, a)
		}
	}
	return steps[len(steps)-1]
}

// A log that is full is made anew of what is there; then the record has room.
func TestLogFull(t *testing.T) {
	for name, steps := range changes() {
		s := ready(t)
		filled(t, s, len(name))
		was := len(records(t, s))
		last := leads(t, s, steps)
		all := s.Table().All()
		if now := len(records(t, s)); now != was {
			t.Fatalf("%s: %d records, were %d", name, now, was)
		}
		if a := s.Do(last); a.E != api.OK {
			t.Fatalf("%s: %+v", name, a)
		}
		list := records(t, s)
		if len(list) != 2 || fmt.Sprint(list[0]) != fmt.Sprint(all) || list[1].Kind == api.RecAll {
			t.Errorf("%s: %+v, want %+v and one more", name, list, all)
		}
		now := fmt.Sprint(s.Table().All())
		if now == fmt.Sprint(all) {
			t.Errorf("%s changed nothing", name)
		}
		holdOK(t, s, crash(0, 0))
		if again := fmt.Sprint(s.Table().All()); again != now {
			t.Errorf("%s: %s, was %s", name, again, now)
		}
		holdSafe(t, s)
	}
}

// A log that has just room for the record is not made anew.
func TestLogJustFull(t *testing.T) {
	for left := range 50 {
		s := ready(t)
		filled(t, s, left)
		was := len(records(t, s))
		put(t, s, "no", "") // 24 bytes
		now := records(t, s)
		if left >= 24 {
			if b, _ := s.Tape().Read(0); len(b) != api.MaxTape-left+24 || len(now) != was+1 {
				t.Errorf("%d are left: %d bytes, %d records", left, len(b), len(now))
			}
		} else if len(now) != 2 || now[0].Kind != api.RecAll || now[1].Kind != api.RecPut {
			t.Errorf("%d are left: %d records", left, len(now))
		}
	}
}

// crowded is a store whose table has too much for one record; its log has no room left.
func crowded(t *testing.T) *Store {
	t.Helper()
	s := ready(t)
	list := records(t, s)
	for n := range 320 {
		list = append(list, api.Rec{Kind: api.RecPut, ID: 2 + n, Key: fmt.Sprintf("key number %05d", n)})
	}
	if e := spoil(t, s, list...); e != api.OK {
		t.Fatal(e)
	}
	filled(t, s, 0)
	return s
}

// A log that is full, and can not be made shorter: nothing is there, and all else goes on.
func TestLogTooLarge(t *testing.T) {
	for name, steps := range changes() {
		s := crowded(t)
		last := leads(t, s, steps)
		was, drives := seen(s), s.Pool().Len()
		a := s.Do(last)
		done := name == "put" || name == "del"
		if !same(a, api.Answer{E: api.ErrTooLarge, Done: done}) {
			t.Errorf("%s: %+v", name, a)
		}
		now := seen(s)
		if !slices.Equal(now[2:6], was[2:6]) || now[0] != was[0] || len(s.Tasks()) != 0 || len(s.Parked()) != 0 {
			t.Errorf("%s changed something", name)
		}
		if added := s.Pool().Len() - drives; (added == 1) != (name == "add") {
			t.Errorf("%s: %d drives more", name, added)
		}
		holdGet(t, s, "a", "data")
		if name == "move" {
			// It is ready yet, and commits again.
			hold(t, s, last, api.Answer{E: api.ErrTooLarge})
		}
		holdOK(t, s, crash(0, 0))
		if again := seen(s); again[0] != was[0] {
			t.Errorf("%s: %s, was %s", name, again[0], was[0])
		}
	}
}

// Both sides are lost: nothing is there, what is there is read yet; but behind a crash there is nothing to recover from.
func TestBothSidesLost(t *testing.T) {
	for name, steps := range changes() {
		s := ready(t)
		last := leads(t, s, steps)
		s.Tape().Lose(0)
		s.Tape().Lose(1)
		was, drives := fmt.Sprint(s.Table().All()), s.Pool().Len()
		a := s.Do(last)
		if !same(a, api.Answer{E: api.ErrLost, Done: name == "put" || name == "del"}) {
			t.Errorf("%s: %+v", name, a)
		}
		if now := fmt.Sprint(s.Table().All()); now != was || (s.Pool().Len() > drives) != (name == "add") {
			t.Errorf("%s: %s, was %s", name, now, was)
		}
		holdGet(t, s, "a", "data")
		holdE(t, s, api.ErrLost, crash(0, 0), crash(1, 1))
		holdWaits(t, s)
	}
}

// holdWaits holds that all but Crash, Fuse and Lose answer ErrDown, and change nothing.
func holdWaits(t *testing.T, s *Store) {
	t.Helper()
	holdRefused(t, s, api.ErrDown, call(api.Put, "key", "data"), call(api.Put, "", text+text), call(9, "", ""), call(api.Get, "a", ""), call(api.Del, "a", ""), call(api.List, "", ""),
		step(api.StepRun, 0), step(api.StepRun, 1), step(api.StepRun, 99), step(api.StepMove, 0), step(api.StepAdd, 3), step(api.StepDrain, 0), step(api.StepDrain, 99), step(api.StepRemove, 3), step(api.StepRemove, 99))
	holdRefused(t, s, api.ErrArg, step(0, 0), step(10, 0))
	holdRefused(t, s, api.ErrNone, step(api.StepLose, -1), step(api.StepLose, 99))
}

// downs has the power go in different ways: each is a store and what is told of the step in which it went.
func downs(t *testing.T) map[string]func() *Store {
	t.Helper()
	fused := func(s *Store, x api.Step, want api.Answer) *Store {
		holdOK(t, s, step(api.StepFuse, 0))
		hold(t, s, x, want)
		return s
	}
	all := map[string]func() *Store{
		"store": func() *Store {
			s := ready(t)
			began(t, s, api.Put, "b", "b", 0)
			return fused(s, step(api.StepRun, 0), api.Answer{E: api.ErrDown})
		},
		"flush": func() *Store {
			s := ready(t)
			began(t, s, api.List, "", "", 0)
			began(t, s, api.Put, "b", "b", 1)
			goes(t, s, 1, 2)
			return fused(s, step(api.StepRun, 1), api.Answer{E: api.ErrDown, Task: 1})
		},
		"move's store": func() *Store {
			s := ready(t)
			holdOK(t, s, step(api.StepMove, 0))
			return fused(s, step(api.StepMove, 0), api.Answer{E: api.ErrDown})
		},
		"stray": func() *Store {
			s := made(t, 1, 1, even(4, 9))
			put(t, s, "a", "data")
			put(t, s, "a", "other")
			return fused(s, step(api.StepMove, 0), api.Answer{E: api.ErrDown})
		},
		"stray's flush": func() *Store {
			s := made(t, 1, 1, even(4, 9))
			put(t, s, "a", "data")
			put(t, s, "a", "other")
			holdOK(t, s, step(api.StepFuse, 1))
			hold(t, s, step(api.StepMove, 0), api.Answer{E: api.ErrDown})
			return s
		},
	}
	for name, steps := range changes() {
		all[name] = func() *Store {
			s := ready(t)
			last := leads(t, s, steps)
			return fused(s, last, api.Answer{E: api.ErrDown, Done: name == "put" || name == "del"})
		}
	}
	return all
}

// Behind any ErrDown all but Crash, Fuse and Lose answer ErrDown, whatever is Fused, till a Crash.
func TestDown(t *testing.T) {
	for name, down := range downs(t) {
		s := down()
		holdWaits(t, s)
		for _, n := range []int{0, 1, 1000, -1} {
			holdOK(t, s, step(api.StepFuse, n))
			holdWaits(t, s)
		}
		keys := s.Table().Keys()
		holdOK(t, s, crash(0, 0))
		if len(s.Tasks()) != 0 || !slices.Equal(s.Table().Keys(), keys) {
			t.Errorf("%s: tasks %v, keys %v", name, s.Tasks(), s.Table().Keys())
		}
		put(t, s, "key", "data")
		holdGet(t, s, "key", "data")
		settle(t, s)
		holdSettled(t, s)
	}
}

// A Put, or a move, that the power interrupts is there till the crash; a task whose commit it interrupts has ended.
func TestDownTasks(t *testing.T) {
	all := downs(t)
	for name, want := range map[string][]int{"store": {0}, "flush": {0, 1}, "put": nil, "del": nil} {
		s := all[name]()
		if got := s.Tasks(); !slices.Equal(got, want) {
			t.Errorf("%s: tasks %v, want %v", name, got, want)
		}
		holdOK(t, s, crash(0, 0))
		if got := s.Tasks(); len(got) != 0 {
			t.Errorf("%s: tasks %v behind a crash", name, got)
		}
	}
}

// A drive can be lost while the power is gone, and no other one; what was parked is not any more.
func TestDownLose(t *testing.T) {
	s := parked(t)
	if len(s.Parked()) == 0 {
		t.Fatal("nothing is parked")
	}
	began(t, s, api.Put, "z", "", 0)
	holdOK(t, s, step(api.StepFuse, 0))
	hold(t, s, step(api.StepRun, 0), api.Answer{E: api.ErrDown, Done: true})
	was := s.Parked()
	holdRefused(t, s, api.ErrNone, step(api.StepLose, 9))
	if !slices.Equal(s.Parked(), was) {
		t.Error("a Lose of nothing changed what is parked")
	}
	holdOK(t, s, step(api.StepLose, 1))
	if len(s.Parked()) != 0 || !s.Pool().Drive(1).Lost() || s.Pool().Drive(0).Lost() {
		t.Errorf("parked %v", s.Parked())
	}
	holdRefused(t, s, api.ErrNone, step(api.StepLose, 1))
	holdE(t, s, api.ErrDown, step(api.StepMove, 0))
}

// Fuse lets so many writes be done yet, of the drives and of the tapes.
func TestFuse(t *testing.T) {
	for fuse := -1; fuse < 8; fuse++ {
		s := made(t, 2, 1, even(3, 9))
		began(t, s, api.Put, "a", "data", 0)
		holdOK(t, s, step(api.StepFuse, fuse))
		for range max(fuse, 0) {
			if a := s.Do(step(api.StepRun, 0)); a.E != api.OK {
				t.Fatalf("Fuse(%d): %+v", fuse, a)
			}
		}
		if a := s.Do(step(api.StepRun, 0)); (a.E == api.ErrDown) != (fuse < 6) {
			t.Errorf("Fuse(%d): %+v", fuse, a)
		}
	}
	for fuse := -1; fuse < 4; fuse++ {
		s := made(t, 2, 1, even(3, 9))
		began(t, s, api.Put, "a", "", 0)
		holdOK(t, s, step(api.StepFuse, 99), step(api.StepFuse, fuse))
		if a := s.Do(step(api.StepRun, 0)); (a.E == api.ErrDown) != (fuse < 2) {
			t.Errorf("Fuse(%d): %+v", fuse, a)
		}
	}
}

// A crash has the fuse gone, too.
func TestFuseGone(t *testing.T) {
	s := made(t, 2, 1, even(3, 99))
	holdOK(t, s, step(api.StepFuse, 3), crash(0, 0))
	put(t, s, "a", text)
	put(t, s, "b", text)
	holdGet(t, s, "a", text)
}

// An epoch that is the last one that a record can tell: nothing is there, neither in the log.
func TestLastEpoch(t *testing.T) {
	s := made(t, 1, 0, even(3, 4))
	if e := spoil(t, s, api.Rec{Kind: api.RecAll, Size: api.MaxID, Drives: []int{api.In, api.In, api.Draining}}); e != api.OK {
		t.Fatal(e)
	}
	holdRefused(t, s, api.ErrForm, step(api.StepDrain, 0), step(api.StepRemove, 2))
	was := records(t, s)
	holdE(t, s, api.ErrForm, step(api.StepAdd, 4))
	if !reflect.DeepEqual(records(t, s), was) || s.Pool().Len() != 4 || len(s.Table().States()) != 3 {
		t.Errorf("%+v, %d drives, states %v", records(t, s), s.Pool().Len(), s.Table().States())
	}
	put(t, s, "a", "data")
	holdOK(t, s, crash(0, 0))
	holdGet(t, s, "a", "data")
}
