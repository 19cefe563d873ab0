package task

import (
	"bytes"
	"slices"
	"testing"

	"flitting/api"
	"flitting/shard"
)

// overwrite puts another number at each place of list, spare room included.
func overwrite(list []int) {
	list = list[:cap(list)]
	for at := range list {
		list[at] = -99
	}
}

// overwriteObject makes all of an object another, spare room included.
func overwriteObject(o api.Object) {
	list := o.Stripes[:cap(o.Stripes)]
	for at := range list {
		overwrite(list[at].Locs)
		list[at] = api.Stripe{ID: -99, Epoch: -99}
	}
}

// What is handed in is not kept: neither what is done, nor what is answered, goes with it.
func TestMemoryNotKept(t *testing.T) {
	for from := range 14 {
		p := drives(t, 3, 2)
		data, states := []byte(text[:17]), in(3)
		x := New(1, api.Put, "key", data)
		if from == 0 {
			copy(data, "----------------------------")
		}
		holdPlan(t, x, 2, 1, 1, states, 1, api.OK)
		want := wanted(t, "key", 2, 1, 1, 17, in(3), 1)
		for n := range 12 {
			if n == from-1 {
				copy(data, "----------------------------")
				overwrite(states)
			}
			holdObject(t, x, want)
			holdNext(t, x, p, 2, 1, false, api.OK)
		}
		holdReady(t, x, p, 2, 1)
		holdObject(t, x, want)
		one, _ := shard.Read(p, 2, 1, want.Stripes[0])
		two, _ := shard.Read(p, 2, 1, want.Stripes[1])
		if got := slices.Concat(one, two); string(got[:17]) != text[:17] {
			t.Errorf("%q, want %q", got, text[:17])
		}
	}
}

// What is handed in stays as it is, spare room included.
func TestMemoryGiven(t *testing.T) {
	p := drives(t, 3, 9)
	all := []byte(text[:40])
	data := all[:20]
	many := []int{api.In, api.In, api.In, api.Draining, 71, 72}
	for range 3 {
		Check(api.Put, "key", data)
		Check(api.Put, "key", all)
		x := New(1, api.Put, "key", data)
		x.Plan(3, 1, 1, many[:2], 1)
		holdPlan(t, x, 2, 1, 1, many[:4], 1, api.OK)
		for range 14 {
			x.Next(p, 2, 1)
			overwriteObject(x.Object())
		}
		holdReady(t, x, p, 2, 1)
		if string(all) != text[:40] || !slices.Equal(many, []int{api.In, api.In, api.In, api.Draining, 71, 72}) {
			t.Errorf("what was handed in is another: %q, %v", all, many)
		}
	}
}

// What is answered is new each time, and shares nothing with what is kept, nor one stripe with another.
func TestMemoryAnswers(t *testing.T) {
	p := drives(t, 4, 9)
	x := planned(t, 2, 1, text[:40], 4)
	want := wanted(t, "key", 2, 1, 1, 40, in(4), 1)
	for range 18 {
		first, again := x.Object(), x.Object()
		overwriteObject(first)
		if !same(again, want) {
			t.Errorf("an answer is another when one was changed: %v", again)
		}
		overwrite(again.Stripes[0].Locs)
		if !slices.Equal(again.Stripes[1].Locs, want.Stripes[1].Locs) {
			t.Errorf("a stripe is another when one was changed: %v", again)
		}
		holdObject(t, x, want)
		holdNext(t, x, p, 2, 1, false, api.OK)
	}
	holdReady(t, x, p, 2, 1)
	for n := range 4 {
		if len(p.Held(n)) == 0 && bytes.Contains([]byte(seen(p)[n]), []byte(text[:4])) {
			t.Errorf("drive %d has what is no shard", n)
		}
	}
}

// Nil and empty lists are the same to everybody.
func TestMemoryEmpty(t *testing.T) {
	for _, data := range [][]byte{nil, {}, []byte(text)[:0]} {
		for _, states := range [][]int{nil, {}, in(3)[:0]} {
			for op := api.Put; op <= api.List; op++ {
				holdCheck(t, op, "key", data, api.OK)
			}
			x := New(1, api.Put, "key", data)
			holdPlan(t, x, 2, 1, 1, states, 1, api.OK)
			holdObject(t, x, api.Object{Key: "key", ID: 1})
			holdReady(t, x, nil, 2, 1)
			y := put(t, "a")
			holdPlan(t, y, 2, 1, 1, states, 1, api.ErrTooFew)
		}
	}
}

// Two tasks of the same things are two: each is planned and done on its own.
func TestMemoryApart(t *testing.T) {
	p := drives(t, 2, 1)
	data, states := []byte("data"), in(2)
	x, y := New(1, api.Put, "key", data), New(1, api.Put, "key", data)
	holdPlan(t, x, 1, 1, 1, states, 1, api.OK)
	holdStays(t, y, p, 1, 1, api.ErrArg)
	holdObject(t, y, api.Object{})
	holdDone(t, x, p, 1, 1, 4)
	holdReady(t, x, p, 1, 1)
	holdPlan(t, y, 1, 1, 1, states, 1, api.OK)
	overwriteObject(y.Object())
	holdNext(t, y, p, 1, 1, false, api.OK)
	holdHeld(t, p, x.Object().Stripes[0].Locs[0], 1, [2]int{16, 0})
	holdReady(t, x, p, 1, 1)
	holdDone(t, y, p, 1, 1, 3)
	holdReady(t, y, p, 1, 1)
}
