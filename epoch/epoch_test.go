package epoch

import (
	"math"
	"slices"
	"sync"
	"testing"

	"flitting/api"
)

const (
	gone     = 0
	in       = 1
	draining = 2
)

// answered is what a call answers.
type answered struct {
	states []int
	e      api.Errno
}

// The model tells each call another way than the program: by lists of the drives' numbers.

// whoIn is the numbers of the drives that are In.
func whoIn(states []int) []int {
	var who []int
	for n := len(states) - 1; n >= 0; n-- {
		if states[n] == in {
			who = append(who, n)
		}
	}
	return who
}

// set is the states up to drive n, its new one, and those behind it, put together anew.
func set(states []int, n, state int) answered {
	return answered{slices.Concat(states[:n], []int{state}, states[n+1:]), api.OK}
}

func modelJoin(states []int) answered {
	if len(states) > 11 {
		return answered{nil, 3}
	}
	return answered{slices.Concat(states, []int{in}), 0}
}

func modelDrain(states []int, n, need int) answered {
	who := whoIn(states)
	at := slices.Index(who, n)
	if at < 0 {
		return answered{nil, 7}
	}
	others := slices.Delete(who, at, at+1)
	if need > len(others) {
		return answered{nil, 10}
	}
	return set(states, n, draining)
}

func modelRemove(states []int, n int) answered {
	if slices.Contains(whoIn(states), n) {
		return answered{nil, 11}
	}
	for at, state := range states {
		if at == n && state == draining {
			return set(states, n, gone)
		}
	}
	return answered{nil, 7}
}

// hold holds what a call answered against what it should.
func hold(t *testing.T, got, want answered, call string, given ...any) {
	t.Helper()
	if got.e != want.e || !slices.Equal(got.states, want.states) {
		t.Errorf("%s%v = %v, want %v", call, given, got, want)
	}
}

func holdIn(t *testing.T, states []int, want int) {
	t.Helper()
	if got := In(states); got != want {
		t.Errorf("In(%v) = %d, want %d", states, got, want)
	}
}

func holdJoin(t *testing.T, states []int, want answered) {
	t.Helper()
	got, e := Join(states)
	hold(t, answered{got, e}, want, "Join", states)
}

func holdDrain(t *testing.T, states []int, n, need int, want answered) {
	t.Helper()
	got, e := Drain(states, n, need)
	hold(t, answered{got, e}, want, "Drain", states, n, need)
}

func holdRemove(t *testing.T, states []int, n int, want answered) {
	t.Helper()
	got, e := Remove(states, n)
	hold(t, answered{got, e}, want, "Remove", states, n)
}

// follow is the next of numbers that follow a rule, from a seed that goes on: from 0 to below most.
func follow(seed *uint32, most int) int {
	*seed = *seed*1664525 + 1013904223
	return int(*seed>>8) % most
}

// numbers is numbers that no drive of up to that many has, and some that one has.
func numbers(size int) []int {
	list := []int{math.MinInt64, math.MinInt64 + 1, -1 << 32, -1 << 31, 1 << 31, 1 << 32, 1<<32 + 1, math.MaxInt64 - 1, math.MaxInt64}
	for n := -3; n <= size+3; n++ {
		list = append(list, n)
	}
	return list
}

// others is states that there are not, among them such as have those that there are in some of their bits.
func others() []int {
	return []int{
		-1, -2, 3, 4, 5, 1 << 8, 1<<8 + 1, 1<<8 + 2, 1<<16 + 1, 1<<32 + 1, 1<<32 + 2, -1 << 32,
		math.MaxInt64, math.MinInt64, math.MinInt64 + 1, math.MinInt64 + 2,
	}
}

// holdAll holds all four calls of these states against the model, with all numbers and needs around those that there are.
func holdAll(t *testing.T, states []int) {
	t.Helper()
	holdIn(t, states, len(whoIn(states)))
	holdJoin(t, states, modelJoin(states))
	for _, n := range numbers(len(states)) {
		holdRemove(t, states, n, modelRemove(states, n))
		for _, need := range numbers(len(states)) {
			holdDrain(t, states, n, need, modelDrain(states, n, need))
		}
	}
}

func TestInKnown(t *testing.T) {
	holdIn(t, nil, 0)
	holdIn(t, []int{}, 0)
	holdIn(t, []int{in}, 1)
	holdIn(t, []int{gone}, 0)
	holdIn(t, []int{draining}, 0)
	holdIn(t, []int{in, draining, gone, in}, 2)
	holdIn(t, slices.Repeat([]int{in}, 12), 12)
	holdIn(t, slices.Repeat([]int{in, draining}, 1000), 1000)
	holdIn(t, others(), 0)
}

func TestJoinKnown(t *testing.T) {
	holdJoin(t, nil, answered{[]int{in}, api.OK})
	holdJoin(t, []int{}, answered{[]int{in}, api.OK})
	holdJoin(t, []int{gone, draining}, answered{[]int{gone, draining, in}, api.OK})
	holdJoin(t, []int{in, in}, answered{[]int{in, in, in}, api.OK})
	holdJoin(t, []int{7, -1}, answered{[]int{7, -1, in}, api.OK})
}

// It is full by how many drives there are, whatever their states: a drive that is Gone has its number for good.
func TestJoinFull(t *testing.T) {
	for _, state := range append(others(), gone, in, draining) {
		for size := range 40 {
			states := slices.Repeat([]int{state}, size)
			if size < api.MaxDrives {
				holdJoin(t, states, answered{append(slices.Clone(states), in), api.OK})
			} else {
				holdJoin(t, states, answered{nil, api.ErrFull})
			}
		}
	}
}

func TestDrainKnown(t *testing.T) {
	states := []int{in, draining, in, gone, in}
	holdDrain(t, states, 0, 2, answered{[]int{draining, draining, in, gone, in}, api.OK})
	holdDrain(t, states, 2, 2, answered{[]int{in, draining, draining, gone, in}, api.OK})
	holdDrain(t, states, 4, 2, answered{[]int{in, draining, in, gone, draining}, api.OK})
	holdDrain(t, states, 4, 3, answered{nil, api.ErrTooFew})
	holdDrain(t, states, 4, 1, answered{[]int{in, draining, in, gone, draining}, api.OK})
	holdDrain(t, states, 1, 2, answered{nil, api.ErrNone})
	holdDrain(t, states, 3, 2, answered{nil, api.ErrNone})
	holdDrain(t, states, 5, 2, answered{nil, api.ErrNone})
	holdDrain(t, states, -1, 2, answered{nil, api.ErrNone})
	holdDrain(t, nil, 0, 0, answered{nil, api.ErrNone})
}

// Example 1: Drain of one of need.
func TestDrainOfNeed(t *testing.T) {
	for need := 1; need <= api.MaxK+api.MaxM; need++ {
		states := slices.Repeat([]int{in}, need)
		for n := range need {
			holdDrain(t, states, n, need, answered{nil, api.ErrTooFew})
			holdDrain(t, append(states, draining, gone, 3), n, need, answered{nil, api.ErrTooFew})
			more := append(slices.Clone(states), in)
			want := slices.Clone(more)
			want[n] = draining
			holdDrain(t, more, n, need, answered{want, api.OK})
		}
	}
}

// The last drive that is In goes, if none is needed, or fewer than none.
func TestDrainTheLast(t *testing.T) {
	for _, need := range []int{0, -1, -2, -1 << 31, -1 << 32, math.MinInt64, math.MinInt64 + 1} {
		holdDrain(t, []int{in}, 0, need, answered{[]int{draining}, api.OK})
		holdDrain(t, []int{gone, in}, 1, need, answered{[]int{gone, draining}, api.OK})
	}
	for _, need := range []int{1, 2, 1 << 31, 1 << 32, math.MaxInt64 - 1, math.MaxInt64} {
		holdDrain(t, []int{in}, 0, need, answered{nil, api.ErrTooFew})
	}
}

// Of a drive that is not In ErrNone comes first, also where there would be too few.
func TestDrainWhichError(t *testing.T) {
	for _, need := range []int{1, 2, 12, math.MaxInt64} {
		for _, state := range append(others(), gone, draining) {
			holdDrain(t, []int{state}, 0, need, answered{nil, api.ErrNone})
			holdDrain(t, []int{in, state}, 1, need, answered{nil, api.ErrNone})
		}
		for _, n := range []int{-1, 1, math.MinInt64, math.MaxInt64} {
			holdDrain(t, nil, n, need, answered{nil, api.ErrNone})
			holdDrain(t, []int{in}, n, need, answered{nil, api.ErrNone})
		}
	}
}

func TestRemoveKnown(t *testing.T) {
	states := []int{in, draining, in, gone, draining}
	holdRemove(t, states, 0, answered{nil, api.ErrNotDrained})
	holdRemove(t, states, 2, answered{nil, api.ErrNotDrained})
	holdRemove(t, states, 1, answered{[]int{in, gone, in, gone, draining}, api.OK})
	holdRemove(t, states, 4, answered{[]int{in, draining, in, gone, gone}, api.OK})
	holdRemove(t, states, 3, answered{nil, api.ErrNone})
	holdRemove(t, states, 5, answered{nil, api.ErrNone})
	holdRemove(t, states, -1, answered{nil, api.ErrNone})
	holdRemove(t, nil, 0, answered{nil, api.ErrNone})
	holdRemove(t, []int{draining}, 0, answered{[]int{gone}, api.OK})
}

func TestOtherStates(t *testing.T) {
	for _, state := range others() {
		holdDrain(t, []int{in, state, in}, 1, 0, answered{nil, api.ErrNone})
		holdRemove(t, []int{in, state, in}, 1, answered{nil, api.ErrNone})
		holdDrain(t, []int{state, in, state}, 1, 0, answered{[]int{state, draining, state}, api.OK})
		holdDrain(t, []int{state, in, state}, 1, 1, answered{nil, api.ErrTooFew})
		holdRemove(t, []int{state, draining, state}, 1, answered{[]int{state, gone, state}, api.OK})
		holdJoin(t, []int{state}, answered{[]int{state, in}, api.OK})
	}
}

// All rows of up to five states, among them such as there are not.
func TestAllRows(t *testing.T) {
	kinds := []int{gone, in, draining, 3, -1}
	for size, count := 0, 1; size < 6; size, count = size+1, count*len(kinds) {
		states := make([]int, size)
		for row := range count {
			for at := range states {
				states[at] = kinds[row%len(kinds)]
				row /= len(kinds)
			}
			holdAll(t, states)
		}
	}
}

// States as they are usual, and more of them than there may be drives.
func TestLongRows(t *testing.T) {
	seed := uint32(1)
	for range 300 {
		states := make([]int, follow(&seed, 30))
		for at := range states {
			states[at] = []int{in, in, in, draining, gone}[follow(&seed, 5)]
		}
		holdAll(t, states)
	}
}

// One epoch behind the other: what was answered is handed in again, and what was handed in stays as it was.
func TestOneBehindTheOther(t *testing.T) {
	seed := uint32(2)
	for range 300 {
		var states []int
		for range 60 {
			n, need := follow(&seed, 14)-1, follow(&seed, 8)
			var got, want answered
			was := slices.Clone(states)
			switch follow(&seed, 4) {
			case 0, 1:
				want = modelJoin(states)
				got.states, got.e = Join(states)
			case 2:
				want = modelDrain(states, n, need)
				got.states, got.e = Drain(states, n, need)
			case 3:
				want = modelRemove(states, n)
				got.states, got.e = Remove(states, n)
			}
			hold(t, got, want, "call", states, n, need)
			if !slices.Equal(states, was) {
				t.Fatalf("%v was handed in, and is %v", was, states)
			}
			if got.e == api.OK {
				states = got.states
			}
		}
	}
}

// A drive comes, drains, and goes; its number is never another's.
func TestALife(t *testing.T) {
	states := []int{in, in}
	states, _ = Join(states)
	holdRemove(t, states, 0, answered{nil, api.ErrNotDrained})
	states, _ = Drain(states, 0, 2)
	holdDrain(t, states, 0, 0, answered{nil, api.ErrNone})
	holdDrain(t, states, 1, 2, answered{nil, api.ErrTooFew})
	holdIn(t, states, 2)
	states, _ = Remove(states, 0)
	holdRemove(t, states, 0, answered{nil, api.ErrNone})
	holdDrain(t, states, 0, 0, answered{nil, api.ErrNone})
	holdJoin(t, states, answered{[]int{gone, in, in, in}, api.OK})
}

// calls is each call that answers states, and is OK where drive 0 is In and drive 1 Draining.
func calls() []func(states []int) ([]int, api.Errno) {
	return []func(states []int) ([]int, api.Errno){
		Join,
		func(states []int) ([]int, api.Errno) { return Drain(states, 0, 0) },
		func(states []int) ([]int, api.Errno) { return Remove(states, 1) },
	}
}

// What is handed in is not changed, its spare room included, and what is answered shares nothing with it, or with another answer.
func TestMemory(t *testing.T) {
	for at, call := range calls() {
		for _, room := range []int{0, 1, 5, 50} {
			given := append(make([]int, 0, 2+room), in, draining)
			spare := given[:2+room]
			for n := 2; n < len(spare); n++ {
				spare[n] = 77
			}
			was := slices.Clone(spare)
			one, e := call(given)
			two, _ := call(given)
			if e != api.OK || !slices.Equal(spare, was) {
				t.Errorf("call %d: %d, %v was handed in, and is %v", at, e, was, spare)
			}
			want := slices.Clone(two)
			for _, list := range [][]int{one[:cap(one)], given[:cap(given)]} {
				for n := range list {
					list[n] = 88
				}
			}
			if !slices.Equal(two, want) {
				t.Errorf("call %d: %v was answered, and is %v", at, want, two)
			}
			for n := range two[:cap(two)] {
				two[:cap(two)][n] = 99
			}
			if slices.Contains(one[:cap(one)], 99) || slices.Contains(spare, 99) {
				t.Errorf("call %d: an answer shares what another one has, or what was handed in", at)
			}
		}
	}
}

// A refused call changes nothing of what it is handed.
func TestRefused(t *testing.T) {
	states := slices.Repeat([]int{in, draining, gone}, 4)
	was := slices.Clone(states)
	holdJoin(t, states, answered{nil, api.ErrFull})
	holdDrain(t, states, 1, 0, answered{nil, api.ErrNone})
	holdDrain(t, states, 0, 4, answered{nil, api.ErrTooFew})
	holdRemove(t, states, 0, answered{nil, api.ErrNotDrained})
	holdRemove(t, states, 2, answered{nil, api.ErrNone})
	if !slices.Equal(states, was) {
		t.Errorf("%v was handed in, and is %v", was, states)
	}
}

// The states may be read by many at once, and all are told the same.
func TestManyAtOnce(t *testing.T) {
	states := []int{in, draining, in, gone, in}
	var group sync.WaitGroup
	for range 8 {
		group.Go(func() {
			for range 200 {
				holdIn(t, states, 3)
				holdJoin(t, states, answered{[]int{in, draining, in, gone, in, in}, api.OK})
				holdDrain(t, states, 2, 2, answered{[]int{in, draining, draining, gone, in}, api.OK})
				holdRemove(t, states, 1, answered{[]int{in, gone, in, gone, in}, api.OK})
			}
		})
	}
	group.Wait()
}
