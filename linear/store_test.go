package linear

import (
	"fmt"
	"slices"
	"testing"

	"flitting/api"
	"flitting/hist"
	"flitting/store"
)

// ask is a step that clients, the migration, changes of the drives or the power have a store do.
func (s *seeded) ask() api.Step {
	switch n := s.below(400); {
	case n < 80:
		data := slices.Repeat([]byte(fmt.Sprint(s.below(1000))), s.below(10))
		return api.Step{Kind: api.StepCall, A: 1 + s.below(4), Key: one(s, "a", "b", "c"), Data: data}
	case n < 320:
		return api.Step{Kind: api.StepRun, A: s.below(api.MaxTasks)}
	case n < 390:
		return api.Step{Kind: api.StepMove}
	case n < 392:
		return api.Step{Kind: api.StepAdd, A: 60}
	case n < 394:
		return api.Step{Kind: api.StepDrain, A: s.below(6)}
	case n < 396:
		return api.Step{Kind: api.StepRemove, A: s.below(6)}
	case n < 397:
		return api.Step{Kind: api.StepLose, A: s.below(5)}
	}
	return api.Step{Kind: api.StepFuse, A: s.below(12)}
}

// lived is the calls of a store that went through a row of steps, with a crash each time that the power goes. An answer of ErrDown leaves open whether a call was done: those calls' places are told, too.
func (s *seeded) lived(steps int) ([]hist.Call, []int) {
	home, _ := store.New(2, 1, []int{60, 60, 60, 60})
	h := hist.New()
	do := func(x api.Step) api.Errno {
		a := home.Do(x)
		h.Add(x, a)
		return a.E
	}
	for range steps {
		if do(s.ask()) == api.ErrDown {
			do(api.Step{Kind: api.StepCrash, A: s.below(90), Keep: uint64(s.below(1 << 20))})
		}
	}
	calls := h.Calls()
	var open []int
	for at, c := range calls {
		if c.To > 0 && c.E == api.ErrDown {
			open = append(open, at)
		}
	}
	return calls, open
}

// settle tells whether the calls are as done one after the other, if some of those that are open were done, and the others not.
func settle(calls []hist.Call, open []int) ([]hist.Call, bool) {
	for which := range 1 << len(open) {
		list := slices.Clone(calls)
		for bit, at := range open {
			if which>>bit&1 == 1 {
				list[at].E, list[at].At = api.OK, list[at].To
			}
		}
		if Check(list) {
			return list, true
		}
	}
	return calls, false
}

// wrongs is c with other answers, none of which is what it should be.
func wrongs(c hist.Call) []hist.Call {
	var list []hist.Call
	other := c
	switch {
	case c.At == 0 || c.To == 0 || c.Op == api.Put || c.E == api.ErrLost:
	case c.Op == api.Get && c.E == api.OK:
		other.Out = append(slices.Clone(c.Out), 'x')
		list = append(list, other, fails(c, api.ErrNone), fails(c, api.ErrDown))
	case c.Op == api.Get:
		list = append(list, fails(c, api.OK), fails(c, api.ErrDown))
	case c.Op == api.Del:
		list = append(list, fails(c, api.OK+api.ErrNone-c.E), fails(c, api.ErrLost))
	default:
		other.Keys = append(slices.Clone(c.Keys), "x")
		list = append(list, other, fails(c, api.ErrNone))
	}
	if c.At > 0 && c.To > 0 {
		list = append(list, moved(c, c.From, c.At, c.At-1), moved(c, c.At+1, c.At, c.To))
	}
	return list
}

// P1: what a store does, whatever comes between, is as if done one after the other; with one answer that is another it is not.
func TestStore(t *testing.T) {
	t.Parallel()
	var ops [5]int
	done, not, wrong := 0, 0, 0
	for seed := range seeded(500) {
		s := seed
		calls, open := s.lived(400)
		list, ok := settle(calls, open)
		if !ok {
			t.Fatalf("row %d: %+v, open %v", seed, calls, open)
		}
		for _, at := range open {
			if list[at].At > 0 {
				done++
			} else {
				not++
			}
		}
		for at, c := range list {
			if c.At > 0 && c.To > 0 {
				ops[c.Op]++
			}
			for _, other := range wrongs(c) {
				wrong++
				broken := slices.Clone(list)
				broken[at] = other
				hold(t, false, broken...)
			}
		}
	}
	if slices.Min(ops[1:]) < 1000 || done < 5 || not < 5 || wrong < 50000 {
		t.Errorf("so many were done, by what they are: %v; of those with ErrDown %d were, %d not; %d wrong ones", ops[1:], done, not, wrong)
	}
}

// P1: a Get between whose look and end other clients change what it reads, at each moment of it.
func TestStoreBetween(t *testing.T) {
	t.Parallel()
	run := func(task int) api.Step { return api.Step{Kind: api.StepRun, A: task} }
	ask := func(op int, data string) api.Step {
		return api.Step{Kind: api.StepCall, A: op, Key: "a", Data: []byte(data)}
	}
	for _, op := range []int{api.Put, api.Del} {
		for between := range 9 {
			home, _ := store.New(1, 1, []int{60, 60, 60})
			h := hist.New()
			do := func(x api.Step) api.Answer {
				a := home.Do(x)
				h.Add(x, a)
				return a
			}
			do(ask(api.Put, "some data of more than two stripes"))
			for !do(run(0)).Done {
			}
			do(ask(api.Get, ""))
			for range between {
				do(run(0))
			}
			task := do(ask(op, "other data")).Task
			for !do(run(task)).Done {
			}
			do(run(0))
			do(api.Step{Kind: api.StepMove})
			for at := 0; at < 20 && !do(run(0)).Done; at++ {
			}
			hold(t, true, h.Calls()...)
			for at, c := range h.Calls() {
				for _, other := range wrongs(c) {
					broken := h.Calls()
					broken[at] = other
					hold(t, false, broken...)
				}
			}
		}
	}
}
