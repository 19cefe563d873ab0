package hist

import (
	"bytes"
	"fmt"
	"math"
	"slices"
	"testing"

	"flitting/api"
)

// far is numbers that are far apart: tasks, steps, marks that no store has.
func far() []int {
	return []int{math.MinInt64, -1 << 32, -1, 6, 1 << 8, 1<<32 - 1, 1 << 32, math.MaxInt64}
}

// event is a step and its answer.
type event struct {
	x api.Step
	a api.Answer
}

// call is a task more.
func call(task, op int, key, data string) event {
	return event{api.Step{Kind: api.StepCall, A: op, Key: key, Data: []byte(data)}, api.Answer{Task: task}}
}

// refused is a call that the store does not take.
func refused(op int, key, data string, e api.Errno) event {
	x := call(0, op, key, data)
	x.a.E = e
	return x
}

// run is a step of a task that goes on.
func run(task, mark int) event {
	return event{api.Step{Kind: api.StepRun, A: task}, api.Answer{Task: task, Mark: mark}}
}

// end is a task's last step.
func end(task, mark int, e api.Errno, data string, keys ...string) event {
	x := run(task, mark)
	x.a.Done, x.a.E, x.a.Data, x.a.Keys = true, e, []byte(data), keys
	return x
}

// other is a step that is no client's.
func other(kind, a int, e api.Errno) event {
	return event{api.Step{Kind: kind, A: a}, api.Answer{E: e}}
}

func crash() event {
	return other(api.StepCrash, 0, api.OK)
}

// made is a history of these.
func made(list ...event) *Hist {
	h := New()
	for _, each := range list {
		h.Add(each.x, each.a)
	}
	return h
}

// sameCall holds two calls against each other; nil and empty lists are the same.
func sameCall(a, b Call) bool {
	return a.Task == b.Task && a.Op == b.Op && a.Key == b.Key && bytes.Equal(a.Data, b.Data) &&
		a.From == b.From && a.To == b.To && a.At == b.At &&
		a.E == b.E && bytes.Equal(a.Out, b.Out) && slices.Equal(a.Keys, b.Keys)
}

func same(a, b []Call) bool {
	return slices.EqualFunc(a, b, sameCall)
}

// hold holds what a history tells.
func hold(t *testing.T, h *Hist, want ...Call) {
	t.Helper()
	if got := h.Calls(); !same(got, want) {
		t.Errorf("Calls() = %+v, want %+v", got, want)
	}
}

// holdOf holds what a history of these tells.
func holdOf(t *testing.T, list []event, want ...Call) {
	t.Helper()
	hold(t, made(list...), want...)
}

// P21.1: nothing was asked yet.
func TestNew(t *testing.T) {
	h := New()
	if h == nil {
		t.Fatal("New() = nil")
	}
	hold(t, h)
	if New() == h {
		t.Error("New() twice is one and the same")
	}
	h.Add(call(0, api.Put, "a", "b").x, api.Answer{})
	hold(t, New())
}

// A nil history: nothing.
func TestNil(t *testing.T) {
	var h *Hist
	for _, each := range []event{call(0, api.Put, "a", "b"), run(0, api.Looked), end(0, api.Changed, api.OK, ""), crash(), {}} {
		h.Add(each.x, each.a)
		if got := h.Calls(); len(got) != 0 {
			t.Errorf("Calls() = %+v", got)
		}
	}
}

// A history that nobody made is as one that was.
func TestZero(t *testing.T) {
	for _, first := range []event{call(3, api.Get, "a", ""), run(3, api.Looked), crash(), other(api.StepMove, 0, api.OK)} {
		var h Hist
		hold(t, &h)
		h.Add(first.x, first.a)
		hold(t, &h, made(first).Calls()...)
		h.Add(call(3, api.Get, "a", "").x, api.Answer{Task: 3})
		list := append(made(first).Calls(), Call{Task: 3, Op: api.Get, Key: "a", From: 2})
		hold(t, &h, list...)
	}
}

// P21.1: each operation, from its beginning to its end.
func TestCalls(t *testing.T) {
	holdOf(t, []event{call(0, api.Put, "key", "data"), run(0, api.Nothing), end(0, api.Changed, api.OK, "")},
		Call{Op: api.Put, Key: "key", Data: []byte("data"), From: 1, To: 3, At: 3})
	holdOf(t, []event{call(2, api.Get, "key", ""), run(2, api.Looked), run(2, api.Nothing), end(2, api.Nothing, api.OK, "data")},
		Call{Task: 2, Op: api.Get, Key: "key", From: 1, To: 4, At: 2, Out: []byte("data")})
	holdOf(t, []event{call(1, api.Get, "key", ""), end(1, api.Looked, api.ErrNone, "")},
		Call{Task: 1, Op: api.Get, Key: "key", From: 1, To: 2, At: 2, E: api.ErrNone})
	holdOf(t, []event{call(5, api.Del, "key", ""), end(5, api.Changed, api.OK, "")},
		Call{Task: 5, Op: api.Del, Key: "key", From: 1, To: 2, At: 2})
	holdOf(t, []event{call(0, api.List, "", ""), end(0, api.Looked, api.OK, "", "a", "", "b")},
		Call{Op: api.List, From: 1, To: 2, At: 2, Keys: []string{"a", "", "b"}})
}

// Example 1: a call that ends: To is above From.
func TestExample(t *testing.T) {
	list := made(call(0, api.Put, "a", "b"), end(0, api.Changed, api.OK, "")).Calls()
	if len(list) != 1 || list[0].To <= list[0].From {
		t.Errorf("%+v", list)
	}
}

// P21.1: what a call tells is of the step, and which task it is of the answer; there may be any.
func TestCallFields(t *testing.T) {
	key, data := "\x00\xff key of more bytes than a key may have", string(make([]byte, 300))
	for _, op := range append(far(), 0, 1, 2, 3, 4, 5) {
		x := call(4, op, key, data)
		x.x.Keep = math.MaxUint64
		x.a.Mark, x.a.Done, x.a.Data, x.a.Keys = api.Changed, true, []byte("not told"), []string{"not told"}
		holdOf(t, []event{x}, Call{Task: 4, Op: op, Key: key, Data: []byte(data), From: 1})
		holdOf(t, []event{x, run(4, api.Looked)}, Call{Task: 4, Op: op, Key: key, Data: []byte(data), From: 1, At: 2})
	}
}

// P21.1: moments are counted of every Add, from 1 on, whatever the step is.
func TestMoments(t *testing.T) {
	kinds := append(far(), 0, 10)
	for kind := api.StepCall; kind <= api.StepFuse; kind++ {
		kinds = append(kinds, kind)
	}
	for _, kind := range kinds {
		for many := range 4 {
			for _, e := range []api.Errno{api.ErrArg, api.ErrDown, api.ErrNone, -1, 99} {
				list := slices.Repeat([]event{other(kind, 3, e)}, many)
				list = append(list, call(0, api.Get, "a", ""))
				list = append(list, slices.Repeat([]event{other(kind, 3, e)}, many)...)
				want := Call{Op: api.Get, Key: "a", From: many + 1}
				holdOf(t, list, want)
				if kind != api.StepCrash || many == 0 {
					want.At, want.To = 2*many+2, 2*many+2
				}
				holdOf(t, append(list, end(0, api.Looked, api.OK, "")), want)
			}
		}
	}
}

// P21.1: only a StepCall begins a call, only a StepRun goes on with one, and only a StepCrash breaks it off.
func TestKinds(t *testing.T) {
	for _, kind := range append(far(), 0, 1, 2, 3, 4, 5, 6, 7, 8, 9, 10) {
		x := end(0, api.Looked, api.OK, "data", "key")
		x.x.Kind = kind
		if kind != api.StepCall {
			holdOf(t, []event{x})
		}
		want := []Call{{Op: api.Get, Key: "a", From: 1}}
		switch kind {
		case api.StepCall:
			want = append(want, Call{From: 2, To: 3, At: 3})
		case api.StepRun:
			want[0].To, want[0].At, want[0].Out, want[0].Keys = 2, 2, []byte("data"), []string{"key"}
		case api.StepCrash:
		default:
			want[0].To, want[0].At = 3, 3
		}
		holdOf(t, []event{call(0, api.Get, "a", ""), x, end(0, api.Looked, api.OK, "")}, want...)
	}
}

// P21.1: a call that is refused is none, and an earlier one of a task of that number may still end.
func TestRefused(t *testing.T) {
	for _, e := range append(far(), 1, 2, 3, 4, 5, 6, 7, 8, 9, 10, 11, 12, 13) {
		no := refused(api.Put, "a", "b", api.Errno(e))
		holdOf(t, []event{no})
		holdOf(t, []event{no, no, call(0, api.Get, "a", ""), no}, Call{Op: api.Get, Key: "a", From: 3})
		holdOf(t, []event{call(0, api.Get, "a", ""), no, run(0, api.Looked), no, end(0, api.Nothing, api.OK, "c")},
			Call{Op: api.Get, Key: "a", From: 1, To: 5, At: 3, Out: []byte("c")})
		holdOf(t, []event{no, end(0, api.Changed, api.OK, "")})
	}
}

// P21.1: of a task whose earlier call has not ended, that one never ends; the later one does.
func TestAgain(t *testing.T) {
	first := Call{Task: 1, Op: api.Put, Key: "a", Data: []byte("b"), From: 1}
	holdOf(t, []event{call(1, api.Put, "a", "b"), call(1, api.Del, "c", "")},
		first, Call{Task: 1, Op: api.Del, Key: "c", From: 2})
	holdOf(t, []event{call(1, api.Put, "a", "b"), call(1, api.Del, "c", ""), end(1, api.Changed, api.OK, "")},
		first, Call{Task: 1, Op: api.Del, Key: "c", From: 2, To: 3, At: 3})
	// When the later one has ended, the earlier one does not go on.
	holdOf(t, []event{call(1, api.Put, "a", "b"), call(1, api.Del, "c", ""), end(1, api.Changed, api.OK, ""), end(1, api.Looked, api.ErrNone, "d", "e")},
		first, Call{Task: 1, Op: api.Del, Key: "c", From: 2, To: 3, At: 3})
	// What it was before stays.
	looked := first
	looked.At = 2
	holdOf(t, []event{call(1, api.Put, "a", "b"), run(1, api.Looked), call(1, api.Del, "c", ""), run(1, api.Looked)},
		looked, Call{Task: 1, Op: api.Del, Key: "c", From: 3, At: 4})
	// One of the same things is another call.
	holdOf(t, []event{call(1, api.Put, "a", "b"), call(1, api.Put, "a", "b"), end(1, api.Changed, api.OK, "")},
		first, Call{Task: 1, Op: api.Put, Key: "a", Data: []byte("b"), From: 2, To: 3, At: 3})
	// Those of other tasks go on.
	holdOf(t, []event{call(0, api.Get, "x", ""), call(1, api.Put, "a", "b"), call(1, api.List, "", ""), end(0, api.Looked, api.ErrNone, "")},
		Call{Op: api.Get, Key: "x", From: 1, To: 4, At: 4, E: api.ErrNone}, Call{Task: 1, Op: api.Put, Key: "a", Data: []byte("b"), From: 2}, Call{Task: 1, Op: api.List, From: 3})
}

// P21.1: a task's number may be another call's when the earlier one has ended; that one stays as it was.
func TestNumberAgain(t *testing.T) {
	holdOf(t, []event{call(0, api.Put, "a", "b"), end(0, api.Changed, api.OK, ""), call(0, api.Get, "a", ""), run(0, api.Looked), end(0, api.Nothing, api.OK, "b")},
		Call{Op: api.Put, Key: "a", Data: []byte("b"), From: 1, To: 2, At: 2},
		Call{Op: api.Get, Key: "a", From: 3, To: 5, At: 4, Out: []byte("b")})
}

// P21.1: a StepRun of a task that has no call that may still end is a moment, and no more.
func TestNoCall(t *testing.T) {
	for _, x := range []event{run(3, api.Looked), run(3, api.Changed), end(3, api.Changed, api.OK, "a", "b"), end(3, api.Nothing, api.ErrLost, "")} {
		holdOf(t, []event{x})
		holdOf(t, []event{call(0, api.Put, "a", "b"), x}, Call{Op: api.Put, Key: "a", Data: []byte("b"), From: 1})
		holdOf(t, []event{x, call(3, api.Get, "a", "")}, Call{Task: 3, Op: api.Get, Key: "a", From: 2})
		ended := []event{call(3, api.Get, "a", ""), end(3, api.Looked, api.ErrNone, "c", "d")}
		want := Call{Task: 3, Op: api.Get, Key: "a", From: 1, To: 2, At: 2, E: api.ErrNone, Out: []byte("c"), Keys: []string{"d"}}
		holdOf(t, append(ended, x), want)
		holdOf(t, append(ended, x, x, call(3, api.List, "", "")), want, Call{Task: 3, Op: api.List, From: 5})
	}
}

// P21.1: it is the step's A that tells whose call goes on, not the answer's Task.
func TestRunOfStep(t *testing.T) {
	x := end(1, api.Looked, api.OK, "out")
	x.a.Task = 0
	holdOf(t, []event{call(0, api.Get, "a", ""), call(1, api.Get, "b", ""), x},
		Call{Op: api.Get, Key: "a", From: 1}, Call{Task: 1, Op: api.Get, Key: "b", From: 2, To: 3, At: 3, Out: []byte("out")})
	x.a.Task = 99
	holdOf(t, []event{call(1, api.Get, "b", ""), x}, Call{Task: 1, Op: api.Get, Key: "b", From: 1, To: 2, At: 2, Out: []byte("out")})
}

// P21.1: of a call that looks more than once, At is the last look.
func TestLooks(t *testing.T) {
	list := []event{call(0, api.Get, "a", "")}
	want := Call{Op: api.Get, Key: "a", From: 1}
	for moment := 2; moment < 20; moment++ {
		mark := []int{api.Nothing, api.Looked, api.Nothing, api.Changed, api.Nothing}[moment%5]
		if mark != api.Nothing {
			want.At = moment
		}
		list = append(list, run(0, mark))
		holdOf(t, list, want)
		for _, last := range []int{api.Nothing, api.Looked, api.Changed} {
			ended := want
			ended.To, ended.Out = moment+1, []byte("out")
			if last != api.Nothing {
				ended.At = moment + 1
			}
			holdOf(t, append(list, end(0, last, api.OK, "out")), ended)
		}
	}
}

// P21.1: every mark but Nothing is one.
func TestMarks(t *testing.T) {
	for _, mark := range append(far(), api.Nothing, api.Looked, api.Changed, 3) {
		want := Call{Task: 2, Op: api.Del, Key: "a", From: 1}
		if mark != api.Nothing {
			want.At = 2
		}
		holdOf(t, []event{call(2, api.Del, "a", ""), run(2, mark)}, want)
		want.To = 2
		holdOf(t, []event{call(2, api.Del, "a", ""), end(2, mark, api.OK, "")}, want)
	}
}

// P21.1: a Run that ends with an error, or with no mark, ends nevertheless; one that has an error and does not end tells none.
func TestErrors(t *testing.T) {
	for _, e := range append(far(), 0, 1, 2, 3, 4, 5, 7, 8, 9, 10, 11, 12, 13) {
		for _, mark := range []int{api.Nothing, api.Looked, api.Changed} {
			x := end(0, mark, api.Errno(e), "out", "key")
			want := Call{Op: api.Put, Key: "a", Data: []byte("b"), From: 1, To: 2, E: api.Errno(e), Out: []byte("out"), Keys: []string{"key"}}
			if mark != api.Nothing {
				want.At = 2
			}
			holdOf(t, []event{call(0, api.Put, "a", "b"), x}, want)
			holdOf(t, []event{call(0, api.Put, "a", "b"), x, end(0, api.Looked, api.OK, "")}, want)
			x.a.Done = false
			want.To, want.E, want.Out, want.Keys = 0, api.OK, nil, nil
			holdOf(t, []event{call(0, api.Put, "a", "b"), x}, want)
			want.To, want.At = 3, 3
			holdOf(t, []event{call(0, api.Put, "a", "b"), x, end(0, api.Changed, api.OK, "")}, want)
		}
	}
}

// P21.1: calls that have not ended never end behind a crash; what they were stays, and those that have ended do, too.
func TestCrash(t *testing.T) {
	for _, e := range []api.Errno{api.OK, api.ErrLost, api.ErrCorrupt, api.ErrDown, 99} {
		list := []event{
			call(0, api.Put, "a", "b"), call(1, api.Get, "c", ""), call(2, api.List, "", ""),
			run(1, api.Looked), end(2, api.Looked, api.OK, "", "d"), other(api.StepCrash, 7, e),
		}
		want := []Call{
			{Op: api.Put, Key: "a", Data: []byte("b"), From: 1},
			{Task: 1, Op: api.Get, Key: "c", From: 2, At: 4},
			{Task: 2, Op: api.List, From: 3, To: 5, At: 5, Keys: []string{"d"}},
		}
		holdOf(t, list, want...)
		for task := range 3 {
			list = append(list, run(task, api.Looked), end(task, api.Changed, api.OK, "x", "y"))
			holdOf(t, list, want...)
		}
		// Behind it there are others, of the same tasks.
		for task := range 3 {
			list = append(list, call(task, api.Del, "e", ""))
			want = append(want, Call{Task: task, Op: api.Del, Key: "e", From: 13 + task})
		}
		holdOf(t, list, want...)
		want[4].At, want[4].To = 16, 16
		list = append(list, end(1, api.Changed, api.OK, ""))
		holdOf(t, list, want...)
		list = append(list, crash(), end(0, api.Changed, api.OK, ""), end(2, api.Changed, api.OK, ""))
		holdOf(t, list, want...)
	}
}

// P21.1: numbers of tasks may be far apart, or below 0.
func TestTasks(t *testing.T) {
	tasks := append(far(), 0, 1, 2)
	h := New()
	var want []Call
	for at, task := range tasks {
		x := call(task, api.Get, fmt.Sprint(at), "")
		h.Add(x.x, x.a)
		want = append(want, Call{Task: task, Op: api.Get, Key: fmt.Sprint(at), From: at + 1})
	}
	hold(t, h, want...)
	moment := len(tasks)
	for at := len(tasks) - 1; at >= 0; at -= 2 {
		moment++
		x := end(tasks[at], api.Looked, api.OK, fmt.Sprint(at))
		h.Add(x.x, x.a)
		want[at].To, want[at].At, want[at].Out = moment, moment, []byte(fmt.Sprint(at))
		hold(t, h, want...)
	}
	h.Add(crash().x, crash().a)
	for _, task := range tasks {
		x := end(task, api.Changed, api.OK, "")
		h.Add(x.x, x.a)
	}
	hold(t, h, want...)
}

// P21.1: all calls, as they came: not as they ended, nor by their tasks.
func TestOrder(t *testing.T) {
	holdOf(t, []event{call(2, api.Get, "a", ""), call(0, api.Get, "b", ""), call(1, api.Get, "a", ""), end(1, api.Looked, api.OK, "x"), end(0, api.Looked, api.OK, "y"), end(2, api.Looked, api.OK, "z")},
		Call{Task: 2, Op: api.Get, Key: "a", From: 1, To: 6, At: 6, Out: []byte("z")},
		Call{Task: 0, Op: api.Get, Key: "b", From: 2, To: 5, At: 5, Out: []byte("y")},
		Call{Task: 1, Op: api.Get, Key: "a", From: 3, To: 4, At: 4, Out: []byte("x")})
}
