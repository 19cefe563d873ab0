package hist

import (
	"fmt"
	"math"
	"slices"
	"testing"

	"flitting/api"
	"flitting/store"
)

// seeded is a row of numbers that follow a rule.
type seeded uint64

// below is the next number of the row, from 0 to below n.
func (s *seeded) below(n int) int {
	*s = *s*6364136223846793005 + 1442695040888963407
	return int(uint64(*s) >> 33 % uint64(n))
}

// told is a history told another way: of each call, from what came behind it, all that happened kept as it was.
func told(all []event) []Call {
	var list []Call
	for at, each := range all {
		if each.x.Kind != api.StepCall || each.a.E != api.OK {
			continue
		}
		c := Call{Task: each.a.Task, Op: each.x.A, Key: each.x.Key, Data: each.x.Data, From: at + 1}
		for behind := at + 1; behind < len(all) && c.To == 0 && !breaks(all[behind], c.Task); behind++ {
			follow(&c, all[behind], behind+1)
		}
		list = append(list, c)
	}
	return list
}

// breaks tells whether a call of a task never ends behind this.
func breaks(each event, task int) bool {
	return each.x.Kind == api.StepCrash || each.x.Kind == api.StepCall && each.a.E == api.OK && each.a.Task == task
}

// follow has a call be what the next event makes of it.
func follow(c *Call, each event, moment int) {
	if each.x.Kind != api.StepRun || each.x.A != c.Task {
		return
	}
	if each.a.Mark != api.Nothing {
		c.At = moment
	}
	if each.a.Done {
		c.To, c.E, c.Out, c.Keys = moment, each.a.E, each.a.Data, each.a.Keys
	}
}

// any is an event of any kind, of a few tasks.
func (s *seeded) any() event {
	tasks := []int{0, 1, 2, 5, -1, math.MinInt64, math.MaxInt64}
	task := tasks[s.below(len(tasks))]
	var x event
	switch n := s.below(40); {
	case n < 12:
		x = call(task, s.below(6), fmt.Sprint(s.below(9)), fmt.Sprint(s.below(9)))
		x.a.E = api.Errno(max(0, s.below(20)-13))
	case n < 34:
		x = run(task, s.below(3))
		if s.below(3) == 0 {
			x = end(task, s.below(4), api.Errno(s.below(3)), fmt.Sprint(s.below(9)), slices.Repeat([]string{"key"}, s.below(3))...)
		}
	default:
		x = other(s.below(12), task, api.Errno(s.below(3)))
	}
	if s.below(9) == 0 {
		x.a.Task = tasks[s.below(len(tasks))]
	}
	return x
}

// Long rows of all kinds of steps, with any answers, against what is told another way.
func TestModel(t *testing.T) {
	t.Parallel()
	calls, ends, never, twice := 0, 0, 0, 0
	for seed := range seeded(300) {
		s := seed
		h := New()
		var all []event
		for range 120 {
			x := s.any()
			h.Add(x.x, x.a)
			all = append(all, x)
			if want := told(all); s.below(6) == 0 && !same(h.Calls(), want) {
				t.Fatalf("behind %+v: %+v, want %+v", all, h.Calls(), want)
			}
		}
		hold(t, h, told(all)...)
		for _, c := range h.Calls() {
			calls++
			switch {
			case c.To == 0:
				never++
			case c.At != 0 && c.At < c.To:
				twice++
			}
			if c.To != 0 {
				ends++
			}
		}
	}
	if calls < 5000 || ends < 1000 || never < 1000 || twice < 100 {
		t.Errorf("%d calls, %d that ended, %d that did not, %d that were done ahead of their end", calls, ends, never, twice)
	}
}

// ask is a step that clients, the migration or the power have a store do.
func (s *seeded) ask() api.Step {
	switch n := s.below(180); {
	case n < 30:
		return api.Step{Kind: api.StepCall, A: 1 + s.below(4), Key: string(rune('a' + s.below(3))), Data: make([]byte, s.below(40))}
	case n < 146:
		return api.Step{Kind: api.StepRun, A: s.below(api.MaxTasks)}
	case n < 176:
		return api.Step{Kind: api.StepMove}
	case n < 177:
		return api.Step{Kind: api.StepAdd, A: 40}
	case n < 178:
		return api.Step{Kind: api.StepFuse, A: s.below(30)}
	}
	return api.Step{Kind: api.StepCrash, A: s.below(50), Keep: uint64(s.below(1 << 16))}
}

// What a store was asked, and answered: each call that ended was done, if it was, between its beginning and its end, and no task has two that may end.
func TestStore(t *testing.T) {
	t.Parallel()
	var ops [5]int
	never := 0
	for seed := range seeded(300) {
		s := seed
		world, _ := store.New(2, 1, []int{40, 40, 40, 40})
		h := New()
		var all []event
		for range 300 {
			x := s.ask()
			a := world.Do(x)
			h.Add(x, a)
			all = append(all, event{x, a})
		}
		hold(t, h, told(all)...)
		ended := map[int]int{}
		for _, c := range h.Calls() {
			if c.To == 0 {
				never++
				continue
			}
			ops[c.Op]++
			if c.From >= c.To || c.At > c.To || c.At != 0 && c.At <= c.From || c.From < ended[c.Task] {
				t.Fatalf("%+v", c)
			}
			ended[c.Task] = c.To
			if c.E == api.OK && c.At == 0 {
				t.Fatalf("%+v was not done", c)
			}
		}
	}
	if slices.Min(ops[1:]) < 100 || never < 100 {
		t.Errorf("so many ended, by what they are: %v; %d did not", ops[1:], never)
	}
}
