package shell

import (
	"fmt"
	"math"
	"strings"
	"testing"

	"flitting/api"
	"flitting/script"
	"flitting/store"
)

// seeded is a row of numbers that follow a rule.
type seeded uint64

// below is the next number of the row, from 0 to below n.
func (s *seeded) below(n int) int {
	*s = *s*6364136223846793005 + 1442695040888963407
	return int(uint64(*s) >> 33 % uint64(n))
}

// one is one of these.
func one[T any](s *seeded, of ...T) T {
	return of[s.below(len(of))]
}

// number is any int: near 0, near its ends, or anywhere.
func (s *seeded) number() int {
	bits := s.below(1<<31)<<33 ^ s.below(1<<31)<<7 ^ s.below(128)
	return one(s, s.below(12), -s.below(12), math.MaxInt64-s.below(12), math.MinInt64+s.below(12), bits, bits>>s.below(64))
}

// bytes is so many bytes, mostly such as a line has its own use for.
func (s *seeded) bytes(many int) []byte {
	b := make([]byte, many)
	for at := range b {
		b[at] = one(s, ' ', '\n', 'x', '-', '0', '3', 'a', byte(s.below(256)), byte(s.below(256)))
	}
	return b
}

// any is a step of any kind; most are such as there is something to do for.
func (s *seeded) any() api.Step {
	switch n := s.below(500); {
	case n < 130:
		return s.anyCall()
	case n < 330:
		return api.Step{Kind: api.StepRun, A: s.below(api.MaxTasks + n%2)}
	case n < 460:
		return api.Step{Kind: api.StepMove}
	case n < 466:
		return api.Step{Kind: api.StepAdd, A: s.below(40)}
	case n < 473:
		return api.Step{Kind: api.StepDrain, A: s.below(10)}
	case n < 480:
		return api.Step{Kind: api.StepRemove, A: s.below(10)}
	case n < 482:
		return api.Step{Kind: api.StepLose, A: s.below(13)}
	case n < 485:
		return api.Step{Kind: api.StepCrash, A: s.below(60), Keep: uint64(s.number())}
	case n < 488:
		return api.Step{Kind: api.StepFuse, A: s.below(60)}
	}
	return api.Step{Kind: one(s, 0, 2, 4, 5, 6, 10, s.number()), A: s.number(), Key: string(s.bytes(s.below(3))), Data: s.bytes(s.below(3)), Keep: uint64(s.number())}
}

// anyCall is a Call; most are of few keys, and of no great data.
func (s *seeded) anyCall() api.Step {
	x := api.Step{
		Kind: api.StepCall,
		A:    one(s, api.Put, api.Put, api.Put, api.Get, api.Get, api.Get, api.Del, api.List),
		Key:  one(s, "a", "b", "\n", " ", "\xff\x00"),
		Data: []byte(long[s.below(60):])[:s.below(one(s, 6, 36))],
	}
	switch s.below(40) {
	case 0:
		x.Data = s.bytes(one(s, api.MaxData, api.MaxData+1))
	case 1:
		x.Key = string(s.bytes(one(s, 0, api.MaxKey, api.MaxKey+1)))
	case 2:
		x.A = s.number()
	}
	return x
}

// rest is the state, told another way.
func rest(s *store.Store) string {
	if s.Idle() {
		return "idle\n"
	}
	return "busy\n"
}

// said is what is told of a step.
func said(a api.Answer) string {
	done := map[bool]int{true: 1}[a.Done]
	text := fmt.Sprintf("%d %d %d %d x%x", a.E, a.Task, done, a.Mark, a.Data)
	for _, key := range a.Keys {
		text += fmt.Sprintf(" x%x", key)
	}
	return text + "\n"
}

// model is Run of a text, told another way.
func model(k, m int, drives []int, text string) string {
	s, e := store.New(k, m, drives)
	if e != api.OK {
		return fmt.Sprintf("error %d\n", e)
	}
	steps, line, e := script.Parse(text)
	if e != api.OK {
		return fmt.Sprintf("error 13 %d\n", line)
	}
	told := ""
	for _, x := range steps {
		told += said(s.Do(x))
	}
	return told + rest(s)
}

// P25.1: long rows of steps of all kinds: each is answered what a store, step by step, answers it, and none ahead of it is told otherwise for what comes behind it.
func TestModel(t *testing.T) {
	t.Parallel()
	errors, states := map[api.Errno]int{}, map[string]int{}
	for seed := range seeded(70) {
		s := seed
		k, m := 1+s.below(4), s.below(4)
		drives := make([]int, k+m+s.below(3))
		for n := range drives {
			drives[n] = 3 + s.below(30)
		}
		beside, e := store.New(k, m, drives)
		if e != api.OK {
			t.Fatal(e)
		}
		text, told := "", ""
		for n := range 600 {
			x := s.any()
			text += fmt.Sprintf("%d %d %d x%x x%x\n", x.Kind, x.A, x.Keep, x.Key, x.Data)
			a := beside.Do(x)
			errors[a.E]++
			told += said(a)
			if n%150 == 0 || n == 599 {
				states[rest(beside)]++
				holdText(t, k, m, drives, text, told+rest(beside))
			}
		}
	}
	for _, e := range []api.Errno{api.OK, api.ErrArg, api.ErrFull, api.ErrTooLarge, api.ErrBadKey, api.ErrBusy, api.ErrNone, api.ErrLost, api.ErrDown, api.ErrTooFew, api.ErrNotDrained} {
		if errors[e] < 20 {
			t.Errorf("error %d was told %d times only", e, errors[e])
		}
	}
	if states["idle\n"] < 20 || states["busy\n"] < 20 {
		t.Errorf("so often it was %v", states)
	}
}

// spoil is a text with a piece of it taken away, put in once more, or another.
func (s *seeded) spoil(text string) string {
	from := s.below(len(text) + 1)
	to := min(from+s.below(one(s, 2, 5, len(text)+1)), len(text))
	switch s.below(4) {
	case 0:
		return text[:from] + text[to:]
	case 1:
		return text[:to] + text[from:]
	case 2:
		return text[:from] + one(s, " ", "\n", "x", "-", "0", "00", "1", "+", "A", "x x\n", "3 0 0 x x\n", "\xff") + text[from:]
	}
	return text[:from] + string(s.bytes(to-from)) + text[to:]
}

// P25.1: texts that were spoilt once and more, with any k, m and drives.
func TestModelSpoilt(t *testing.T) {
	t.Parallel()
	was := map[string]int{}
	for seed := range seeded(4000) {
		s := seed
		var steps []api.Step
		for range s.below(12) {
			steps = append(steps, s.any())
		}
		k, m, drives := one(&s, 1, 2, 2, 2, 3, s.number()), one(&s, 0, 1, 1, 1, 2, s.number()), even(s.below(15), one(&s, 9, 9, s.number()))
		text := script.Print(steps)
		for range 4 {
			want := model(k, m, drives, text)
			holdText(t, k, m, drives, text, want)
			kind := "told"
			if strings.HasPrefix(want, "error") {
				kind = want[:min(len(want), 8)]
			}
			was[kind]++
			text = s.spoil(text)
		}
	}
	for _, kind := range []string{"told", "error 1\n", "error 10", "error 13"} {
		if was[kind] < 500 {
			t.Errorf("so often was told: %v", was)
		}
	}
}
