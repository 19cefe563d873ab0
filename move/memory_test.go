package move

import (
	"slices"
	"testing"

	"flitting/api"
)

// overwrite puts another number at each place of list, spare room included.
func overwrite(list []int) {
	list = list[:cap(list)]
	for at := range list {
		list[at] = -99
	}
}

// room is a list with spare room behind it, and all of it.
func room(list ...int) (short, all []int) {
	all = append(slices.Clone(list), 71, 72, 73)
	return all[:len(list)], all
}

// What is handed in is not kept: neither what is done, nor what is answered, goes with it.
func TestMemoryNotKept(t *testing.T) {
	for from := range 8 {
		p := drives(t, 4, 1)
		s, target := stripeAt(3, 0, 1), []int{2, 3}
		lay(t, p, 1, 1, text, s)
		x := began(t, 1, 1, s, target...)
		for n := range 6 {
			if n == from {
				overwrite(s.Locs)
				overwrite(target)
			}
			holdNext(t, x, p, false, api.OK)
			holdHanded(t, x, stripeAt(3, 0, 1), []int{2, 3})
		}
		holdReady(t, x, p)
		holdHeld(t, p, 2, 0, [2]int{3, 0})
		holdHeld(t, p, 3, 0, [2]int{3, 1})
	}
}

// A target that is the stripe's own Locs, as the same memory, is two lists all the same.
func TestMemoryOneList(t *testing.T) {
	list := []int{0, 1}
	x := New(1, 1, stripeAt(3, list...), list)
	overwrite(x.Target())
	list[1] = 2
	holdReady(t, x, drives(t, 1, 0))
	holdHanded(t, x, stripeAt(3, 0, 1), []int{0, 1})
}

// What is handed in stays as it is, spare room included.
func TestMemoryGiven(t *testing.T) {
	p := drives(t, 4, 1)
	locs, all := room(0, 1)
	target, more := room(2, 3)
	s := stripeAt(3, locs...)
	lay(t, p, 1, 1, text, s)
	for range 3 {
		x := New(1, 1, s, target)
		for range 8 {
			overwrite(x.Stripe().Locs)
			overwrite(x.Target())
			x.Next(p)
		}
		holdReady(t, x, p)
		New(1, 2, s, target)
		New(1, 1, s, more)
		if !slices.Equal(all, []int{0, 1, 71, 72, 73}) || !slices.Equal(more, []int{2, 3, 71, 72, 73}) {
			t.Errorf("what was handed in is another: %v, %v", all, more)
		}
	}
}

// What is answered is new each time, and shares nothing with what is kept.
func TestMemoryAnswers(t *testing.T) {
	p := drives(t, 4, 1)
	s := stripeAt(3, 0, 1)
	lay(t, p, 1, 1, text, s)
	x := began(t, 1, 1, s, 2, 3)
	for range 6 {
		first, again := x.Stripe(), x.Stripe()
		one, two := x.Target(), x.Target()
		overwrite(first.Locs)
		overwrite(one)
		if !slices.Equal(again.Locs, []int{0, 1}) || !slices.Equal(two, []int{2, 3}) {
			t.Errorf("an answer is another when one was changed: %v, %v", again, two)
		}
		holdHanded(t, x, s, []int{2, 3})
		holdNext(t, x, p, false, api.OK)
	}
	holdReady(t, x, p)
}

// Two moves of the same things are two: each is done on its own, and a later one begins anew.
func TestMemoryApart(t *testing.T) {
	p := drives(t, 4, 1)
	s := stripeAt(3, 0, 1)
	lay(t, p, 1, 1, text, s)
	x, y := began(t, 1, 1, s, 2, 3), began(t, 1, 1, s, 2, 3)
	holdDone(t, x, p, 6)
	holdReady(t, x, p)
	holdDone(t, y, p, 6)
	holdReady(t, y, p)
	z := began(t, 1, 1, s, 2, 3)
	holdNext(t, z, p, false, api.OK)
	holdHeld(t, p, 2, 1, [2]int{3, 0})
	holdReady(t, x, p)
}
