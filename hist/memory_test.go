package hist

import (
	"testing"

	"flitting/api"
)

// overwrite makes all of a list another, spare room included.
func overwrite(data []byte) {
	data = data[:cap(data)]
	for at := range data {
		data[at] = '-'
	}
}

func overwriteKeys(keys []string) {
	keys = keys[:cap(keys)]
	for at := range keys {
		keys[at] = "-"
	}
}

// overwriteCalls makes all of a list of calls another, and all that it has.
func overwriteCalls(list []Call) {
	list = list[:cap(list)]
	for at := range list {
		overwrite(list[at].Data)
		overwrite(list[at].Out)
		overwriteKeys(list[at].Keys)
		list[at] = Call{Task: -99, Op: -99, From: -99, To: -99, At: -99}
	}
}

// R4: what is handed in is not kept: what is told does not go with it.
func TestMemoryNotKept(t *testing.T) {
	h := New()
	data, other := []byte("data, and more")[:4], []byte("other, and more")[:5]
	out, told := []byte("out, and more")[:3], []byte("told, and more")[:4]
	keys := []string{"a", "b", "c"}[:2]
	h.Add(api.Step{Kind: api.StepCall, A: api.Put, Key: "key", Data: data}, api.Answer{Data: told, Keys: keys})
	overwrite(data)
	want := []Call{{Op: api.Put, Key: "key", Data: []byte("data"), From: 1}}
	hold(t, h, want...)
	h.Add(api.Step{Kind: api.StepRun, Data: other}, api.Answer{Mark: api.Changed, Done: true, Data: out, Keys: keys})
	overwrite(other)
	overwrite(out)
	overwriteKeys(keys)
	want[0].To, want[0].At, want[0].Out, want[0].Keys = 2, 2, []byte("out"), []string{"a", "b"}
	hold(t, h, want...)
}

// R4: what is handed in stays as it is, spare room included, whatever is added behind it, and whatever is done to what is told.
func TestMemoryGiven(t *testing.T) {
	all, out, keys := []byte("data, and more"), []byte("out, and more"), []string{"a", "b", "c"}
	h := New()
	for task := range 5 {
		h.Add(api.Step{Kind: api.StepCall, A: api.Put, Key: "key", Data: all[:task]}, api.Answer{Task: task})
		h.Add(api.Step{Kind: api.StepRun, A: task}, api.Answer{Done: true, Data: out[:task], Keys: keys[:task%3]})
		overwriteCalls(h.Calls())
		if string(all) != "data, and more" || string(out) != "out, and more" || keys[0]+keys[1]+keys[2] != "abc" {
			t.Fatalf("what was handed in is another: %q, %q, %q", all, out, keys)
		}
	}
}

// R4: what is told is new each time: it shares nothing with what is kept, nor one list with another.
func TestMemoryAnswers(t *testing.T) {
	shared, keys := []byte("data"), []string{"a", "b"}
	h := New()
	for task := range 3 {
		h.Add(api.Step{Kind: api.StepCall, A: api.Put, Key: "key", Data: shared}, api.Answer{Task: task})
	}
	for task := range 2 {
		h.Add(api.Step{Kind: api.StepRun, A: task}, api.Answer{Done: true, Data: shared, Keys: keys})
	}
	want := []Call{
		{Op: api.Put, Key: "key", Data: []byte("data"), From: 1, To: 4, Out: []byte("data"), Keys: []string{"a", "b"}},
		{Task: 1, Op: api.Put, Key: "key", Data: []byte("data"), From: 2, To: 5, Out: []byte("data"), Keys: []string{"a", "b"}},
		{Task: 2, Op: api.Put, Key: "key", Data: []byte("data"), From: 3},
	}
	for at := range want {
		got, again := h.Calls(), h.Calls()
		overwrite(got[at].Data)
		if string(got[at].Out) != string(want[at].Out) {
			t.Errorf("Out is %q when Data was changed", got[at].Out)
		}
		overwrite(got[at].Out)
		overwriteKeys(got[at].Keys)
		got[at] = want[at]
		if !same(got, want) || !same(again, want) {
			t.Errorf("a call is another when one was changed: %+v, %+v", got, again)
		}
		overwriteCalls(again)
		hold(t, h, want...)
	}
	// What is told is of its moment: what comes behind that is not in it.
	before := h.Calls()
	h.Add(api.Step{Kind: api.StepRun, A: 2}, api.Answer{Mark: api.Changed, Done: true})
	h.Add(api.Step{Kind: api.StepCall, A: api.List}, api.Answer{})
	if !same(before, want) {
		t.Errorf("%+v, want %+v", before, want)
	}
}

// R4: room behind what is told is not what is kept: one more put behind it is nobody else's.
func TestMemoryRoom(t *testing.T) {
	h := New()
	for task := range 5 {
		h.Add(api.Step{Kind: api.StepCall, A: api.List}, api.Answer{Task: task})
		_ = append(h.Calls(), Call{Task: -99})
	}
	for task, each := range h.Calls() {
		if each.Task != task || each.From != task+1 {
			t.Errorf("call %d is %+v", task, each)
		}
	}
}

// R4: nil and empty lists are the same to everybody.
func TestMemoryEmpty(t *testing.T) {
	for _, data := range [][]byte{nil, {}, []byte("data")[:0]} {
		for _, keys := range [][]string{nil, {}, {"key"}} {
			keys = keys[:0]
			h := New()
			h.Add(api.Step{Kind: api.StepCall, A: api.Put, Key: "", Data: data}, api.Answer{Data: data, Keys: keys})
			hold(t, h, Call{Op: api.Put, From: 1})
			h.Add(api.Step{Kind: api.StepRun}, api.Answer{Done: true, Data: data, Keys: keys})
			hold(t, h, Call{Op: api.Put, From: 1, To: 2})
		}
	}
}

// R5: two histories are two.
func TestMemoryApart(t *testing.T) {
	one, two := New(), New()
	one.Add(api.Step{Kind: api.StepCall, A: api.Get, Key: "a"}, api.Answer{})
	two.Add(api.Step{Kind: api.StepRun}, api.Answer{Mark: api.Looked, Done: true})
	two.Add(api.Step{Kind: api.StepCrash}, api.Answer{})
	hold(t, one, Call{Op: api.Get, Key: "a", From: 1})
	hold(t, two)
	one.Add(api.Step{Kind: api.StepRun}, api.Answer{Mark: api.Looked, Done: true})
	hold(t, one, Call{Op: api.Get, Key: "a", From: 1, To: 2, At: 2})
}
