package plan

import (
	"slices"
	"testing"

	"flitting/api"
	"flitting/pool"
	"flitting/rec"
	"flitting/table"
)

// overwrite puts another number at each place of list, spare room included.
func overwrite(list []int) {
	list = list[:cap(list)]
	for at := range list {
		list[at] = -99
	}
}

// seen is what a pool has, and how much of that is loose.
func seen(p *pool.Pool) []int {
	var list []int
	for n := range p.Len() {
		list = append(list, p.Drive(n).Loose(), p.Free(n))
		for _, held := range p.Held(n) {
			list = append(list, held[:]...)
		}
	}
	return list
}

// whole is a table and a pool with something wrong, and something astray.
func whole(t *testing.T) (*table.Table, *pool.Pool) {
	t.Helper()
	x, p := newTable(t, 2, 1, in(12)), drives(t, 12, 3)
	put(t, x, 2, 1, []int{6, 8, 3}, []int{4, 3, 9}, []int{0, 1, 2})
	store(t, p, shardAt{6, 16, 0}, shardAt{7, 16, 0}, shardAt{8, 40, 1})
	return x, p
}

// What is answered is new: neither the table, nor a later answer, goes with it.
func TestMemoryAnswers(t *testing.T) {
	x, _ := whole(t)
	was := x.All()
	for range 3 {
		first, _ := Target(x, 16, 3)
		again, _ := Target(x, 16, 3)
		one, two := Wrong(x, 3), Wrong(x, 3)
		overwrite(first)
		overwrite(one)
		if !slices.Equal(again, []int{6, 8, 3}) || !slices.Equal(two, []int{17, 18}) {
			t.Errorf("an answer is another when one was changed: %v, %v", again, two)
		}
		if !rec.Same(x.All(), was) {
			t.Errorf("the table is another: %v, was %v", x.All(), was)
		}
	}
}

// Neither table, nor pool, nor what is kept is changed, the room behind it included.
func TestMemoryGiven(t *testing.T) {
	x, p := whole(t)
	p.Fuse(1)
	was, had := x.All(), seen(p)
	locs := []int{1, 7, 5, 77, 78}
	// The room is for more stripes than the table has.
	room := append([]api.Stripe{stripeAt(16, 7, 2, 2), stripeAt(40, locs[:3]...)}, slices.Repeat([]api.Stripe{stripeAt(41, 9)}, 9)...)
	for range 3 {
		holdStray(t, p, x, room[:2], shardAt{8, 40, 1}, true)
		holdWrong(t, x, 3, []int{17, 18})
		holdTarget(t, x, 17, 3, []int{3, 9, 4}, true)
	}
	if !rec.Same(x.All(), was) || !slices.Equal(seen(p), had) {
		t.Errorf("the table or the pool is another: %v, %v, was %v, %v", x.All(), seen(p), was, had)
	}
	all := append([]api.Stripe{stripeAt(16, 7, 2, 2), stripeAt(40, 1, 7, 5)}, slices.Repeat([]api.Stripe{stripeAt(41, 9)}, 9)...)
	if !rec.Same(api.Rec{Stripes: room}, api.Rec{Stripes: all}) || !slices.Equal(locs, []int{1, 7, 5, 77, 78}) {
		t.Errorf("what is kept is another: %v, %v", room, locs)
	}
	// The one write that the fuse had is there yet.
	if e, f := p.Flush(7), p.Flush(8); e != api.OK || f != api.ErrDown {
		t.Errorf("Flush = %d, %d, want OK, ErrDown", e, f)
	}
}

// Nothing is kept: each call goes by what it is given.
func TestMemoryNothingKept(t *testing.T) {
	x, p := whole(t)
	keep := []api.Stripe{stripeAt(16, 7), stripeAt(40, 8, 8)}
	for range 3 {
		holdNoStray(t, p, x, keep...)
		keep[1].Locs[1] = 9
		holdStray(t, p, x, keep, shardAt{8, 40, 1}, true)
		keep[0].ID = 17
		holdStray(t, p, x, keep, shardAt{7, 16, 0}, true)
		keep[0].ID, keep[1].Locs[1] = 16, 8
		other, empty := newTable(t, 1, 0, in(1)), pool.New()
		holdStray(t, p, other, keep, shardAt{6, 16, 0}, true)
		holdNoStray(t, empty, x)
		holdWrong(t, other, 1, nil)
		holdTarget(t, other, 16, 1, nil, false)
		holdWrong(t, x, 3, []int{17, 18})
	}
}
