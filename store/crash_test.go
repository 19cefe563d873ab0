package store

import (
	"bytes"
	"fmt"
	"maps"
	"slices"
	"testing"

	"flitting/api"
	"flitting/wal"
)

// scene is a row of steps; behind the first lead of them it is tried what comes of a power that goes.
type scene struct {
	begin func() *Store
	s     *Store
	steps []api.Step
	lead  int
	lost  bool // a drive is lost in it
}

func newScene(begin func() *Store) *scene {
	return &scene{begin: begin, s: begin()}
}

// led has what was done so far lead to what is tried.
func (c *scene) led() *scene {
	c.lead = len(c.steps)
	return c
}

func (c *scene) do(x api.Step) api.Answer {
	c.steps = append(c.steps, x)
	return c.s.Do(x)
}

// runs lets tasks go on by turns, till all have ended.
func (c *scene) runs(tasks ...int) *scene {
	for len(tasks) > 0 {
		next := tasks[0]
		tasks = tasks[1:]
		if a := c.do(step(api.StepRun, next)); !a.Done {
			tasks = append(tasks, next)
		}
	}
	return c
}

func (c *scene) whole(op int, key, data string) *scene {
	return c.runs(c.do(call(op, key, data)).Task)
}

func (c *scene) settle() *scene {
	for !c.s.Idle() {
		c.do(step(api.StepMove, 0))
	}
	return c
}

func (c *scene) also(x api.Step) *scene {
	c.do(x)
	return c
}

// moment is what there is ahead of a step, and what that answers.
type moment struct {
	all    string
	read   map[string]string
	answer api.Answer
}

func now(s *Store) moment {
	return moment{all: fmt.Sprint(s.Table().All()), read: reading(s)}
}

func (a moment) is(b moment) bool {
	return a.all == b.all && maps.Equal(a.read, b.read)
}

// moments is what there is ahead of each step, when no power goes, and behind the last one.
func (c *scene) moments() []moment {
	s := c.begin()
	var list []moment
	for _, x := range c.steps {
		each := now(s)
		each.answer = s.Do(x)
		list = append(list, each)
	}
	return append(list, now(s))
}

// trial is how the power goes, and what comes behind it.
type trial struct {
	at, fuse int  // the fuse is set ahead of that step
	tape     bool // it is the tape's alone
	keep     uint64
	bytes    int
	side     int // a side that is lost ahead of the crash, if there is that one
	again    int // behind a first crash the recovery is broken off by a fuse of so many writes, if not below 0
}

// down plays the scene till the power goes, and is which step that was in; as many as there are, if in none.
func (c *scene) down(t *testing.T, list []moment, x trial) (*Store, int) {
	t.Helper()
	s := c.begin()
	for n, each := range c.steps {
		if n == x.at {
			if x.tape {
				s.Tape().Fuse(x.fuse)
			} else {
				holdOK(t, s, step(api.StepFuse, x.fuse))
			}
		}
		a := s.Do(each)
		if a.E == api.ErrDown && n >= x.at {
			return s, n
		}
		if !same(a, list[n].answer) {
			t.Fatalf("%+v: Do(%+v) = %+v, want %+v", x, each, a, list[n].answer)
		}
	}
	return s, len(c.steps)
}

// recover has the power come back, in the way that is tried.
func (x trial) recover(t *testing.T, s *Store) {
	t.Helper()
	s.Tape().Lose(x.side)
	if x.again >= 0 {
		s.Tape().Crash(x.bytes)
		s.Tape().Fuse(x.again)
		wal.Open(s.Tape())
	}
	holdOK(t, s, crash(x.bytes, x.keep))
}

// hold tries one way: behind the crash there is what was ahead of the step in which the power went, or what is behind it, and all is well.
func (c *scene) hold(t *testing.T, list []moment, x trial) {
	t.Helper()
	s, at := c.down(t, list, x)
	if at < len(c.steps) {
		holdE(t, s, api.ErrDown, step(api.StepMove, 0), step(api.StepRun, 0))
	}
	x.recover(t, s)
	was := now(s)
	if !was.is(list[at]) && !was.is(list[min(at+1, len(c.steps))]) {
		t.Fatalf("%+v, down in step %d: there is %+v, was %+v, should be %+v", x, at, was, list[at], list[min(at+1, len(c.steps))])
	}
	if len(s.Tasks()) != 0 || len(s.Parked()) != 0 || s.move != nil {
		t.Fatalf("%+v: tasks %v, parked %v", x, s.Tasks(), s.Parked())
	}
	if !c.lost {
		holdSafe(t, s)
	}
	stays(t, s, x)
	for key, data := range was.read {
		holdGet(t, s, key, data)
	}
	settle(t, s)
	holdSettled(t, s)
	if got := reading(s); !maps.Equal(got, was.read) {
		t.Fatalf("%+v: %v, want %v", x, got, was.read)
	}
}

// stays holds that recovery, run again, gives the same, whatever else is lost.
func stays(t *testing.T, s *Store, x trial) {
	t.Helper()
	was := seen(s)
	holdOK(t, s, crash(x.bytes+1, ^x.keep))
	holdOK(t, s, step(api.StepFuse, 0), crash(-x.bytes, x.keep))
	if now := seen(s); !slices.Equal(now, was) {
		t.Fatalf("%+v: recovery, run again, gives %q, want %q", x, now, was)
	}
	if x.side < 0 && x.at%2 == 0 {
		s.Tape().Lose(x.at / 2 % 2)
		holdOK(t, s, crash(0, 0))
		if now := seen(s); now[0] != was[0] {
			t.Fatalf("%+v: of one side there is %v, want %v", x, now[0], was[0])
		}
	}
}

// long is how many bytes of a commit in that step can be loose.
func long(list []moment, at int) int {
	if at+1 < len(list) && list[at].all == list[at+1].all {
		return 0
	}
	return 140
}

// holdAll tries a power that goes at each step, at each of its writes, whatever of what is loose lasts, with a side lost or none.
func (c *scene) holdAll(t *testing.T) {
	t.Helper()
	list := c.moments()
	keeps := []uint64{0, 1<<64 - 1, 0x5555555555555555, 0xcccccccccccccccc, 0x0123456789abcdef}
	for at := c.lead; at < len(c.steps); at++ {
		for fuse := range 3 {
			for n, keep := range keeps {
				c.hold(t, list, trial{at: at, fuse: fuse, keep: keep, bytes: n, side: n - 2, again: -1})
			}
		}
		for bytes := -1; bytes < long(list, at); bytes += 1 + max(bytes, 0)/20 {
			for fuse := range 4 {
				c.hold(t, list, trial{at: at, fuse: fuse, tape: true, bytes: bytes, side: (bytes+fuse)%4 - 2, again: bytes%5 - 2})
			}
		}
	}
}

// small is a store with little room, so that slots are used again.
func small(t *testing.T, k, m, many int) func() *Store {
	return func() *Store { return made(t, k, m, even(many, 14)) }
}

// A power that goes in a Put of what was not there.
func TestCrashPut(t *testing.T) {
	t.Parallel()
	newScene(small(t, 2, 1, 3)).whole(api.Put, "b", "stays").led().whole(api.Put, "a", text[:20]).holdAll(t)
	newScene(small(t, 1, 2, 4)).led().whole(api.Put, "a", text[:9]).holdAll(t)
	newScene(small(t, 2, 0, 3)).led().whole(api.Put, "a", text[:9]).holdAll(t)
}

// A power that goes in a Put of what was there, and of nothing.
func TestCrashPutOver(t *testing.T) {
	t.Parallel()
	c := newScene(small(t, 2, 1, 3)).whole(api.Put, "a", "former").whole(api.Put, "b", "stays")
	c.led().whole(api.Put, "a", text[:20]).whole(api.Get, "a", "").holdAll(t)
	c = newScene(small(t, 2, 1, 3)).whole(api.Put, "a", "former")
	c.led().whole(api.Put, "a", "").whole(api.Put, "b", "").whole(api.Get, "b", "").holdAll(t)
}

// A Put behind one that a crash has ended has the version of that: what is there of the former one does no harm.
func TestCrashPutTwice(t *testing.T) {
	t.Parallel()
	for done := range 13 {
		c := newScene(small(t, 2, 1, 4))
		c.do(call(api.Put, "a", "the former one's"))
		for range done {
			c.do(step(api.StepRun, 0))
		}
		c.also(crash(0, uint64(0x0f0f0f0f0f0f)))
		c.led().whole(api.Put, "a", "the other").holdAll(t)
	}
}

// A power that goes in a Del, and while what it leaves is taken away.
func TestCrashDel(t *testing.T) {
	t.Parallel()
	c := newScene(small(t, 2, 1, 3)).whole(api.Put, "a", text[:20]).whole(api.Put, "b", "stays")
	c.led().whole(api.Del, "a", "").whole(api.Del, "a", "").settle().holdAll(t)
}

// A power that goes in a change of the drives.
func TestCrashDrives(t *testing.T) {
	t.Parallel()
	c := newScene(small(t, 2, 1, 4)).whole(api.Put, "a", text[:20])
	c.led().also(step(api.StepDrain, 1)).also(step(api.StepAdd, 14)).also(step(api.StepAdd, 14)).also(step(api.StepDrain, 5)).also(step(api.StepRemove, 5))
	c.holdAll(t)
}

// A power that goes in a migration, and in a Remove behind it.
func TestCrashMove(t *testing.T) {
	t.Parallel()
	c := newScene(small(t, 2, 1, 4)).whole(api.Put, "a", text[:20]).whole(api.Put, "b", text[:16])
	c.led().also(step(api.StepDrain, 1)).settle().also(step(api.StepRemove, 1)).also(step(api.StepAdd, 14)).settle().holdAll(t)
}

// A power that goes while the shards of a lost drive are made anew.
func TestCrashLost(t *testing.T) {
	t.Parallel()
	c := newScene(small(t, 2, 1, 4)).whole(api.Put, "a", text[:20]).whole(api.Put, "b", text[:16])
	c.also(step(api.StepLose, 1)).also(step(api.StepDrain, 1)).led().settle().also(step(api.StepRemove, 1))
	c.lost = true
	c.holdAll(t)
}

// A power that goes while clients and the migration go on by turns.
func TestCrashTurns(t *testing.T) {
	t.Parallel()
	c := newScene(small(t, 2, 1, 4)).whole(api.Put, "a", text[:20]).whole(api.Put, "b", text[:16]).led()
	c.also(step(api.StepAdd, 14)).also(step(api.StepDrain, 0))
	c.do(call(api.Put, "a", text[30:60]))
	c.do(call(api.Get, "b", ""))
	c.do(call(api.Del, "b", ""))
	c.do(call(api.Put, "c", text[60:70]))
	for n := range 40 {
		c.do(step(api.StepMove, 0))
		c.do(step(api.StepRun, []int{0, 3, 1, 0, 3, 3, 0}[n%7]))
		if n == 30 {
			c.do(step(api.StepRun, 2))
		}
	}
	c.settle().holdAll(t)
}

// A power that goes while a full log is made anew: behind the crash there is what was ahead of it, or the record, too.
func TestCrashFull(t *testing.T) {
	t.Parallel()
	for name, steps := range changes() {
		c := newScene(func() *Store {
			s := ready(t)
			filled(t, s, 3)
			return s
		})
		for _, x := range steps[:len(steps)-1] {
			c.do(x)
		}
		c.led().also(steps[len(steps)-1])
		list := c.moments()
		for fuse := range 6 {
			for bytes := -1; bytes < 140; bytes += 1 + max(bytes, 0)/9 {
				c.hold(t, list, trial{at: c.lead, fuse: fuse, tape: true, bytes: bytes, side: (bytes+fuse)%4 - 2, again: bytes%5 - 2})
			}
		}
		if list[c.lead].all == list[c.lead+1].all {
			t.Errorf("%s changes nothing", name)
		}
	}
}

// A side that is lost from the beginning, or between: all is there, and goes on.
func TestCrashSideLost(t *testing.T) {
	for side := range 2 {
		for at := range 4 {
			s := made(t, 2, 1, even(4, 20))
			for n := range 4 {
				if n == at {
					s.Tape().Lose(side)
				}
				put(t, s, string(rune('a'+n)), text[n:n+20])
			}
			holdOK(t, s, step(api.StepDrain, 2))
			settle(t, s)
			del(t, s, "b")
			want := now(s)
			holdOK(t, s, crash(0, 0))
			if got := now(s); !got.is(want) {
				t.Errorf("%+v, want %+v", got, want)
			}
			holdSafe(t, s)
		}
	}
}

// A log whose records can not be applied: ErrCorrupt, and all but Crash, Fuse and Lose answer ErrDown, till the tape has another one.
func TestCorrupt(t *testing.T) {
	pool := api.Rec{Kind: api.RecPool, ID: 1, Drives: in(3)}
	one := api.Rec{Kind: api.RecPut, ID: 1, Size: 3, Key: "a", Stripes: []api.Stripe{{ID: 16, Epoch: 1, Locs: []int{0, 1, 2}}}}
	other := one
	other.Key = "b"
	for _, bad := range [][]api.Rec{
		{one, one}, {one, other}, {pool, pool}, {{Kind: api.RecPool, ID: 2}}, {{Kind: api.RecDel, ID: 1, Key: "a"}},
		{{Kind: api.RecPut, ID: 0, Key: "a"}}, {{Kind: api.RecPut, ID: 1}}, {{Kind: api.RecPut, ID: 1, Size: 97, Key: "a"}},
		{{Kind: api.RecMove, Stripes: one.Stripes}}, {pool, {Kind: api.RecPool, ID: 2, Drives: in(2)}}, {{Kind: api.RecPool, ID: 1, Drives: []int{3}}},
		{{Kind: api.RecAll, ID: 1<<25 + 1}}, {{Kind: api.RecPut, ID: 1<<25 + 1, Key: "a"}},
	} {
		s := spread(t, 2, 1, 3, "data")
		began(t, s, api.Put, "c", "data", 0)
		good, _ := s.Tape().Read(0)
		was := fmt.Sprint(s.Table().All())
		if e := spoil(t, s, bad...); e != api.ErrCorrupt {
			t.Fatalf("%+v: %d", bad, e)
		}
		if len(s.Tasks()) != 0 || fmt.Sprint(s.Table().All()) != was {
			t.Errorf("tasks %v, there is %+v", s.Tasks(), s.Table().All())
		}
		holdWaits(t, s)
		holdOK(t, s, step(api.StepFuse, 5))
		holdE(t, s, api.ErrCorrupt, crash(0, 0), crash(1, 1))
		holdWaits(t, s)
		holdOK(t, s, step(api.StepLose, 0))
		s.Tape().Spoil(0, good)
		s.Tape().Spoil(1, good)
		holdOK(t, s, crash(0, 0))
		holdGet(t, s, "a", "data")
	}
}

// A crash gives the table that was asked for what it tells; and drives that no record knows are Gone.
func TestCrashTable(t *testing.T) {
	s := spread(t, 2, 1, 3, "data")
	x, p, two := s.Table(), s.Pool(), s.Tape()
	one, e := two.Read(0)
	holdOK(t, s, crash(0, 0))
	if s.Table() != x || s.Pool() != p || s.Tape() != two || e != api.OK || len(x.Keys()) != 1 {
		t.Errorf("there is %+v", x.All())
	}
	two.Spoil(0, nil)
	two.Spoil(1, nil)
	holdOK(t, s, crash(0, 0))
	if x.Epoch() != 0 || x.Last() != 0 || len(x.Keys()) != 0 || len(x.States()) != 0 {
		t.Errorf("of no records there is %+v", x.All())
	}
	holdRefused(t, s, api.ErrNone, step(api.StepDrain, 0), step(api.StepRemove, 0))
	holdRefused(t, s, api.ErrTooFew, call(api.Put, "a", "data"))
	put(t, s, "a", "")
	for range 3 {
		holdOK(t, s, step(api.StepAdd, 5))
	}
	if want := []int{0, 0, 0, 1, 1, 1}; !slices.Equal(x.States(), want) || x.Epoch() != 3 {
		t.Errorf("states %v, epoch %d", x.States(), x.Epoch())
	}
	settle(t, s)
	holdSettled(t, s)
	put(t, s, "a", "data")
	two.Spoil(1, one)
	holdOK(t, s, crash(0, 0))
	holdGet(t, s, "a", "data")
}

// A drive that a record tells of, and that there is not: a Put ends with an error, and a move is parked.
func TestUnknownDrives(t *testing.T) {
	s := spread(t, 1, 1, 2, text)
	list := append(records(t, s), api.Rec{Kind: api.RecPool, ID: 2, Drives: in(9)})
	if e := spoil(t, s, list...); e != api.OK {
		t.Fatal(e)
	}
	if rest(t, s, api.ErrArg) == 0 || len(s.Parked()) == 0 {
		t.Errorf("parked %v", s.Parked())
	}
	holdSafe(t, s)
	holdGet(t, s, "a", text)
	holdRefused(t, s, api.ErrNone, step(api.StepLose, 5))
	if a := whole(t, s, api.Put, "b", text); a.E != api.ErrArg {
		t.Errorf("%+v", a)
	}
	for n := range 7 {
		holdOK(t, s, step(api.StepDrain, n+2))
	}
	rest(t, s, api.OK)
	holdSettled(t, s)
}

// Any bytes on the tapes: recovery ends, with a state or an error, and is the same when it is run again; then all answers.
func TestAnyTapes(t *testing.T) {
	t.Parallel()
	s := seeded(5)
	count := map[api.Errno]int{}
	for range 1200 {
		x := spread(t, 1, 1, 3, text[:24], "b")
		good, _ := x.Tape().Read(0)
		for side := range 2 {
			x.Tape().Spoil(side, s.spoilt(good))
		}
		e := x.Do(crash(s.below(9), 5)).E
		count[e]++
		if e != api.OK && e != api.ErrCorrupt {
			t.Fatalf("Crash: %d", e)
		}
		was := seen(x)
		hold(t, x, crash(s.below(9), 6), api.Answer{E: e})
		if now := seen(x); !slices.Equal(now, was) {
			t.Fatalf("recovery, run again, gives %q, want %q", now, was)
		}
		if e == api.OK {
			anything(t, x, &s)
		} else {
			holdWaits(t, x)
		}
	}
	if count[api.OK] < 200 || count[api.ErrCorrupt] < 200 {
		t.Errorf("%v", count)
	}
}

// spoilt is bytes that were good: cut off, changed, put together anew of their entries, or quite others.
func (s *seeded) spoilt(good []byte) []byte {
	b := bytes.Clone(good)
	switch s.below(6) {
	case 0:
		b = b[:s.below(len(b)+1)]
	case 1:
		b[s.below(len(b))] ^= byte(1 + s.below(255))
	case 2:
		b = b[:s.below(100)]
		for n := range b {
			b[n] = byte(s.below(256))
		}
	case 3, 4:
		list, _ := wal.Scan(good)
		b = nil
		for range s.below(8) {
			b = append(b, entry(list[s.below(len(list))])...)
		}
	}
	return b
}

// anything does steps of all kinds; none of them stops the others.
func anything(t *testing.T, x *Store, s *seeded) {
	t.Helper()
	for range 40 {
		each := api.Step{Kind: 1 + s.below(6), A: s.below(6), Key: []string{"a", "b"}[s.below(2)], Data: []byte(text[:s.below(30)])}
		if s.below(2) == 0 {
			each.Kind = api.StepRun
		}
		a := x.Do(each)
		if a.E == api.ErrDown || a.E == api.ErrCorrupt {
			t.Fatalf("Do(%+v) = %+v", each, a)
		}
	}
	for n := range 2000 {
		if x.Idle() || n > 1000 && len(x.Tasks()) > 0 {
			return
		}
		x.Do(step(api.StepMove, 0))
		x.Do(step(api.StepRun, n%6))
	}
	t.Fatal("the migration has no end")
}

// Any bytes in the slots: nothing is read whose sum is wrong, and the migration ends.
func TestAnySlots(t *testing.T) {
	t.Parallel()
	s := seeded(6)
	right, lost := 0, 0
	for range 400 {
		x := spread(t, 2, 1, 4, text[:40], text[50:60])
		want := reading(x)
		for range s.below(20) {
			d := x.Pool().Drive(s.below(4))
			b, _ := d.Read(s.below(12))
			b = append(b, make([]byte, s.below(3))...)
			if len(b) > 0 {
				b[s.below(len(b))] ^= byte(1 + s.below(255))
			}
			d.Write(s.below(12), b)
			if s.below(3) == 0 {
				d.Flush()
			}
		}
		holdOK(t, x, crash(0, uint64(s.below(1<<30))))
		if s.below(2) == 0 {
			holdOK(t, x, step(api.StepAdd, 20))
		}
		for n := range 500 {
			if x.Idle() || n == 499 {
				break
			}
			if a := x.Do(step(api.StepMove, 0)); a.E != api.OK && a.E != api.ErrLost {
				t.Fatalf("%+v", a)
			}
		}
		if !x.Idle() {
			t.Fatal("the migration has no end")
		}
		for key, data := range want {
			a := whole(t, x, api.Get, key, "")
			switch {
			case a.E == api.OK && string(a.Data) == data:
				right++
			case a.E == api.ErrLost && len(a.Data) == 0:
				lost++
			default:
				t.Fatalf("Get of %q: %+v, want %q", key, a, data)
			}
		}
	}
	if right < 100 || lost < 100 {
		t.Errorf("%d were right, %d lost", right, lost)
	}
}
