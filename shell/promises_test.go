package shell

import (
	"maps"
	"slices"
	"strings"
	"testing"

	"flitting/api"
	"flitting/hist"
	"flitting/linear"
	"flitting/script"
)

// The promises that go through the layers, through texts alone.

// calm is so many steps of clients, of the drives and of the migration, and a few crashes; no drive is lost, and no power goes.
func (s *seeded) calm(many int) []api.Step {
	var list []api.Step
	for len(list) < many {
		x := s.any()
		if x.Kind != api.StepFuse && x.Kind != api.StepLose {
			list = append(list, x)
		}
	}
	return list
}

// P1. One after the other: each call of a client is as if done at one moment.
func TestOneAfterTheOther(t *testing.T) {
	t.Parallel()
	ended := map[int]int{}
	for seed := range seeded(150) {
		s := seed
		steps := s.calm(400)
		list, _ := house{k: 2, m: 1, drives: even(3+s.below(3), 40)}.with(script.Print(steps)).told(t)
		h := hist.New()
		for n, a := range list {
			h.Add(steps[n], a)
		}
		if !linear.Check(h.Calls()) {
			t.Fatalf("row %d: %+v", seed, h.Calls())
		}
		calls := h.Calls()
		for n, each := range calls {
			if each.To == 0 || each.E != api.OK {
				continue
			}
			ended[each.Op]++
			if each.Op == api.Get {
				calls[n].Out = append(each.Out, 'x')
			}
		}
		if slices.ContainsFunc(calls, func(c hist.Call) bool { return c.Op == api.Get && c.To > 0 && c.E == api.OK }) && linear.Check(calls) {
			t.Errorf("row %d would be right with whatever is read", seed)
		}
	}
	for op := api.Put; op <= api.List; op++ {
		if ended[op] < 200 {
			t.Errorf("so many calls ended well: %v", ended)
		}
	}
}

// lived is a house with clients, a new drive and one that is drained, all at a time, behind what leads there.
func lived() (house, []string) {
	lead := spread(2, 1, 4, long[:40], "data", long[40:70])
	steps := []string{call(api.Put, "a", long[50:90]), call(api.Del, "b", ""), step(api.StepAdd, 30), call(api.Put, "d", long[:20])}
	for range 8 {
		steps = append(steps, run(0), step(api.StepMove, 0), run(2), step(api.StepMove, 0))
	}
	steps = append(steps, run(1), step(api.StepDrain, 0))
	for range 12 {
		steps = append(steps, run(0), step(api.StepMove, 0), run(2))
	}
	steps = append(steps, call(api.Put, "c", ""), run(0), call(api.Put, "e", "e"), run(0), run(0), step(api.StepAdd, 9))
	for range 30 {
		steps = append(steps, step(api.StepMove, 0))
	}
	return lead, steps
}

// may is what can be there behind steps that were answered so, by the Changes that were told: of a Put or a Del whose commit met the end of the power, there may be either.
func may(t *testing.T, text string, answers []api.Answer) []map[string]string {
	t.Helper()
	steps, _, e := script.Parse(text)
	if e != api.OK {
		t.Fatal(e)
	}
	data, doubt := map[string]string{}, map[string]string(nil)
	calls := map[int]api.Step{}
	for n, a := range answers {
		switch x := steps[n]; {
		case x.Kind == api.StepCall && a.E == api.OK:
			calls[a.Task] = x
		case x.Kind == api.StepRun && a.Mark == api.Changed:
			data = after(data, calls[x.A])
		case x.Kind == api.StepRun && a.Done && a.E == api.ErrDown:
			doubt = after(data, calls[x.A])
		}
	}
	if doubt == nil {
		return []map[string]string{data}
	}
	return []map[string]string{data, doubt}
}

// after is the data behind a Put or a Del.
func after(data map[string]string, x api.Step) map[string]string {
	data = maps.Clone(data)
	delete(data, x.Key)
	if x.A == api.Put {
		data[x.Key] = string(x.Data)
	}
	return data
}

// P2. Crashes: wherever the power goes, there is all that was answered, and what was under way wholly, or not at all; a second crash changes nothing, nor does the migration.
func TestCrashes(t *testing.T) {
	t.Parallel()
	lead, steps := lived()
	could := map[int]int{}
	for at := range steps {
		for fuse := range 2 {
			h := lead.with(steps[:at]...).with(step(api.StepFuse, fuse)).with(steps[at:min(at+6, len(steps))]...)
			answers, _ := h.told(t)
			want := may(t, h.text, answers)
			could[len(want)]++
			for n, keep := range []uint64{0, 1<<64 - 1, 0x5a5a5a5a5a5a5a5a} {
				behind := h.with(crash([]int{0, 1000, at}[n], keep))
				if a := behind.last(t); !same(a, api.Answer{}) {
					t.Fatalf("behind %d steps, Fuse(%d), Crash: %+v", at, fuse, a)
				}
				got := behind.reading(t)
				if !slices.ContainsFunc(want, func(w map[string]string) bool { return maps.Equal(w, got) }) {
					t.Fatalf("behind %d steps, Fuse(%d), Crash of %x: there is %q, want one of %q", at, fuse, keep, got, want)
				}
				if n != at%3 {
					continue
				}
				again := behind.with(crash(0, 0), step(api.StepFuse, n), crash(99, 1<<64-1), crash(1, 7), moves(80))
				if now := again.reading(t); !maps.Equal(now, got) || !again.idle(t) {
					t.Fatalf("behind %d steps, Fuse(%d), Crash of %x, and more: there is %q, want %q", at, fuse, keep, now, got)
				}
			}
		}
	}
	if could[1] < 100 || could[2] < 5 {
		t.Errorf("so often there was one that could be, and two: %v", could)
	}
}

// P3. Safe: behind each step, and each crash, any m drives may be lost, and all can be read.
func TestSafe(t *testing.T) {
	t.Parallel()
	lead, steps := lived()
	for many := range len(steps) + 1 {
		h := lead.with(steps[:many]...)
		answers, _ := h.told(t)
		want := may(t, h.text, answers)[0]
		for n := range 4 + 2*many/len(steps) {
			// Of three steps one behind the other each has another crash, or none.
			crashes := []string{"", crash(0, 0), crash(9, 0xf0f0f0f0f0f0f0f0)}[(many+n)%3]
			if got := h.with(crashes, step(api.StepLose, n)).reading(t); !maps.Equal(got, want) {
				t.Fatalf("behind %d steps, %q, without drive %d there is %q, want %q", many, crashes, n, got, want)
			}
		}
	}
}

// P3. Of each k and m: what can be read without some drives is as it was, and what can not be is told as nothing else.
func TestLost(t *testing.T) {
	t.Parallel()
	eachCode(func(k, m int) {
		many := k + m + 1
		h := spread(k, m, many, long[:30], long[30:])
		missing := 0
		for count := m; count <= m+1; count++ {
			eachLoss(many, count, func(steps string) {
				for key, data := range map[string]string{"a": long[:30], "b": long[30:]} {
					a := h.with(steps).ends(t, api.Get, key)
					switch {
					case a.E == api.ErrLost && count > m && len(a.Data) == 0:
						missing++
					case a.E != api.OK || string(a.Data) != data:
						t.Fatalf("k %d, m %d, %q: Get of %q: %+v", k, m, steps, key, a)
					}
				}
			})
		}
		if missing == 0 {
			t.Errorf("k %d, m %d: nothing was lost", k, m)
		}
	})
}

// P4. It settles: behind whatever was done, so many steps of the migration leave nothing to do, all is as it was, and drives that are drained have nothing.
func TestSettles(t *testing.T) {
	t.Parallel()
	busy := 0
	for seed := range seeded(20) {
		s := seed
		steps := s.calm(200)
		for n := range steps {
			// There is room, also on a drive that is new.
			if steps[n].Kind == api.StepAdd {
				steps[n].A = api.MaxCap
			}
		}
		h := house{k: 1 + s.below(3), m: s.below(3), drives: even(6+s.below(3), api.MaxCap)}.with(script.Print(steps), crash(0, 0))
		was := h.reading(t)
		if !h.idle(t) {
			busy++
		}
		h = h.settle(t)
		if got := h.reading(t); !maps.Equal(got, was) {
			t.Fatalf("row %d: there is %q, want %q", seed, got, was)
		}
		for n := range api.MaxDrives {
			// One that is In, or is none, is refused as such.
			a := h.with(step(api.StepRemove, n)).last(t)
			drained := h.with(step(api.StepDrain, n))
			switch e := drained.last(t).E; {
			case a.E == api.OK && e == api.ErrNone, a.E == api.ErrNone && e == api.ErrNone, a.E == api.ErrNotDrained && e == api.ErrTooFew:
			case a.E == api.ErrNotDrained && e == api.OK:
				drained.settle(t).holdLast(t, step(api.StepRemove, n), api.Answer{})
			default:
				t.Fatalf("row %d: Remove of drive %d: %+v, Drain: %d", seed, n, a, e)
			}
		}
	}
	if busy < 7 {
		t.Errorf("in %d rows something was to do", busy)
	}
}

// P5. Room: no drive has more than its slots; what finds none is refused, and all else stays as it is.
func TestRoom(t *testing.T) {
	for slots := range 7 {
		h := house{k: 2, m: 1, drives: even(3, slots)}
		for n := range slots {
			h = h.puts(long[n:n+1], long[n:n+9])
			if a := h.last(t); a.Mark != api.Changed {
				t.Fatalf("%d slots, Put %d: %+v", slots, n, a)
			}
		}
		was := h.reading(t)
		full := h.with(call(api.Put, "more", "more"), run(0))
		if a := full.last(t); !same(a, api.Answer{E: api.ErrFull, Done: true}) || !full.idle(t) {
			t.Errorf("%d slots, a Put more: %+v", slots, a)
		}
		if got := full.reading(t); !maps.Equal(got, was) || len(got) != slots {
			t.Errorf("%d slots: there is %q, want %q", slots, got, was)
		}
		if slots == 0 {
			continue
		}
		freed := full.with(call(api.Del, long[:1], ""), run(0))
		freed.with(call(api.Put, "more", "more")).holdLast(t, run(0), api.Answer{E: api.ErrFull, Done: true})
		freed.with(moves(3)).puts("more", "more").holdGet(t, "more", "more")
	}
}

// P5. Any bytes: whatever text there is, it has an end, and what is told has one, too.
func TestAnyText(t *testing.T) {
	t.Parallel()
	for seed := range seeded(3000) {
		s := seed
		text := string(s.bytes(s.below(60)))
		drives := make([]int, s.below(15))
		for n := range drives {
			drives[n] = s.number()
		}
		got := Run(s.below(7)-1, s.below(6)-1, drives, text)
		if !strings.HasSuffix(got, "\n") || !strings.HasPrefix(got, "error ") && got != "idle\n" {
			t.Fatalf("%q: %q", text, got)
		}
	}
}
