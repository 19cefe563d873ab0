package store

import (
	"slices"
	"testing"

	"flitting/api"
)

// overwrite puts another byte at each place of b, spare room included.
func overwrite(b []byte) {
	b = b[:cap(b)]
	for at := range b {
		b[at] = '-'
	}
}

// overwriteInts puts another number at each place of list, spare room included.
func overwriteInts(list []int) {
	list = list[:cap(list)]
	for at := range list {
		list[at] = -99
	}
}

// overwriteKeys puts another key at each place of list, spare room included.
func overwriteKeys(list []string) {
	list = list[:cap(list)]
	for at := range list {
		list[at] = "-"
	}
}

// What is handed in is not kept.
func TestMemoryNotKept(t *testing.T) {
	drives := []int{3, 4, 5, 6}
	s := made(t, 2, 1, drives)
	overwriteInts(drives)
	for n := range 4 {
		if got := s.Pool().Drive(n).Cap(); got != 3+n {
			t.Errorf("drive %d has %d slots", n, got)
		}
	}
	for ahead := range 14 {
		s := made(t, 2, 1, even(3, 9))
		data := append(make([]byte, 0, 40), text[:20]...)
		x := api.Step{Kind: api.StepCall, A: api.Put, Key: "key", Data: data}
		hold(t, s, x, api.Answer{})
		goes(t, s, 0, max(ahead-1, 0))
		overwrite(data)
		ends(t, s, 0)
		holdGet(t, s, "key", text[:20])
		holdSafe(t, s)
	}
}

// What is handed in stays as it is, spare room included.
func TestMemoryGiven(t *testing.T) {
	drives := append(make([]int, 0, 9), 9, 9, 9)
	s := made(t, 2, 1, drives)
	if all := drives[:9]; !slices.Equal(all, []int{9, 9, 9, 0, 0, 0, 0, 0, 0}) {
		t.Errorf("drives %v", all)
	}
	data := append(make([]byte, 0, 40), text[:20]...)
	for _, op := range []int{api.Put, api.Get, api.Del, api.List} {
		a := s.Do(api.Step{Kind: api.StepCall, A: op, Key: "key", Data: data})
		ends(t, s, a.Task)
		holdOK(t, s, api.Step{Kind: api.StepMove, Data: data}, api.Step{Kind: api.StepFuse, A: 99, Data: data}, api.Step{Kind: api.StepCrash, Data: data})
	}
	if all := data[:40]; string(all[:20]) != text[:20] || !slices.Equal(all[20:], make([]byte, 20)) {
		t.Errorf("data %q", all)
	}
}

// What is answered shares no memory with what is kept, or with another answer.
func TestMemoryAnswers(t *testing.T) {
	s := spread(t, 2, 1, 3, text, text[:32])
	for range 3 {
		for _, key := range []string{"a", "b"} {
			a := whole(t, s, api.Get, key, "")
			b := whole(t, s, api.Get, key, "")
			was := string(b.Data)
			overwrite(a.Data)
			if string(b.Data) != was {
				t.Errorf("%q, was %q", b.Data, was)
			}
		}
		holdGet(t, s, "a", text)
		holdGet(t, s, "b", text[:32])
		overwriteKeys(whole(t, s, api.List, "", "").Keys)
		holdWhole(t, s, api.List, "", "", api.Answer{Mark: api.Looked, Keys: []string{"a", "b"}})
	}
	holdOK(t, s, step(api.StepAdd, 0))
	rest(t, s, api.ErrFull)
	for n := range 3 {
		began(t, s, api.Get, "a", "", n)
	}
	parked := s.Parked()
	overwriteInts(s.Parked())
	overwriteInts(s.Tasks())
	if !slices.Equal(s.Tasks(), []int{0, 1, 2}) || !slices.Equal(s.Parked(), parked) || len(parked) == 0 {
		t.Errorf("tasks %v, parked %v", s.Tasks(), s.Parked())
	}
}

// What is handed out by name is the store's own, and used.
func TestMemoryOwn(t *testing.T) {
	s := spread(t, 2, 1, 3, "data")
	if s.Table() != s.Table() || s.Pool() != s.Pool() || s.Tape() != s.Tape() {
		t.Error("there is more than one")
	}
	s.Pool().Fuse(0)
	began(t, s, api.Put, "b", "b", 0)
	hold(t, s, step(api.StepRun, 0), api.Answer{E: api.ErrDown})
	holdOK(t, s, crash(0, 0))
	s.Pool().Drive(0).Lose()
	holdE(t, s, api.ErrNone, step(api.StepLose, 0))
	s.Tape().Fuse(0)
	holdE(t, s, api.ErrDown, step(api.StepAdd, 0))
}

// Two stores have nothing in common, and the same steps have the same answers.
func TestApart(t *testing.T) {
	one, two := made(t, 2, 1, even(4, 20)), made(t, 2, 1, even(4, 20))
	var steps []api.Step
	s := seeded(9)
	for range 600 {
		steps = append(steps, s.any())
	}
	var answers []api.Answer
	for _, x := range steps {
		answers = append(answers, one.Do(x))
	}
	for n, x := range steps {
		hold(t, two, x, answers[n])
	}
	if !slices.Equal(seen(one), seen(two)) {
		t.Error("the same steps lead to what is not the same")
	}
}
