package audit

import (
	"bytes"
	"slices"
	"testing"

	"flitting/api"
	"flitting/pool"
	"flitting/rec"
	"flitting/table"
)

// slotsOf is all that stands in a pool's slots, what of it lasts, and how much is loose.
func slotsOf(p *pool.Pool) [][]byte {
	var list [][]byte
	for n := range p.Len() {
		d := p.Drive(n)
		for at := range d.Cap() {
			now, _ := d.Read(at)
			lasts, _ := d.Lasts(at)
			list = append(list, now, lasts)
		}
		list = append(list, []byte{byte(d.Loose()), byte(d.Cap())})
	}
	return list
}

// mixed is a pool and a table with all that there may be: some of it is well, some is not.
func mixed(t *testing.T) (*pool.Pool, *table.Table) {
	t.Helper()
	p, x := drives(t, 12, 6), newTable(t, 2, 1, in(12)...)
	put(t, x, 2, 1, []int{6, 8, 3}, []int{3, 9, 4})
	put(t, x, 2, 2, []int{0, 1, 2})
	lay(t, p, x, 2, 1)
	loose(t, p, 8, 16, 1, []byte("8 others"))
	loose(t, p, 7, 99, 1, []byte("stray"))
	if e := p.Erase(2, 32, 2); e != api.OK {
		t.Fatalf("Erase = %d", e)
	}
	p.Drive(11).Lose()
	return p, x
}

// asked is what all calls answer of a pool and a table.
func asked(p *pool.Pool, x *table.Table, s api.Stripe) []int {
	var list []int
	number := map[bool]int{true: 1}
	for n := -1; n < 14; n++ {
		list = append(list, number[Safe(p, x, n, 3-n)], number[Placed(x, n)], Margin(p, s, n))
	}
	return append(list, number[Clean(p, x)])
}

// R4, R6: what is handed in stays as it is, the room behind a stripe's Locs included, and the power that is left, too: the same call, made again, answers the same.
func TestMemoryGiven(t *testing.T) {
	p, x := mixed(t)
	p.Fuse(1)
	room := []int{6, 8, 3, 77, 78}
	s := stripeAt(16, room[:3]...)
	was, had, first := x.All(), slotsOf(p), asked(p, x, s)
	if first[3] != 0 || first[9] != 1 || first[10] != 0 || first[11] != 1 || first[len(first)-1] != 0 {
		t.Errorf("%v", first)
	}
	for range 3 {
		if again := asked(p, x, s); !slices.Equal(again, first) {
			t.Errorf("%v, then %v", first, again)
		}
	}
	if !rec.Same(x.All(), was) || !slices.EqualFunc(slotsOf(p), had, bytes.Equal) {
		t.Error("the table or the pool is another")
	}
	if !slices.Equal(room, []int{6, 8, 3, 77, 78}) || s.ID != 16 || s.Epoch != 1 || len(s.Locs) != 3 {
		t.Errorf("the stripe is another: %v, %v", s, room)
	}
	// The one write that the fuse had is there yet.
	if e, f := p.Flush(7), p.Flush(8); e != api.OK || f != api.ErrDown {
		t.Errorf("Flush = %d, %d, want OK, ErrDown", e, f)
	}
}

// R5: nothing is kept: each call goes by what is there when it is made.
func TestMemoryNothingKept(t *testing.T) {
	p, x := mixed(t)
	s := stripeAt(16, 6, 8, 3)
	first := asked(p, x, s)
	q, y := one(t)
	other := stripeAt(16, 2, 0, 1)
	second := asked(q, y, other)
	if slices.Equal(first, second) {
		t.Fatalf("twice %v", first)
	}
	for range 3 {
		if a, b := asked(p, x, s), asked(q, y, other); !slices.Equal(a, first) || !slices.Equal(b, second) {
			t.Errorf("%v, %v, were %v, %v", a, b, first, second)
		}
		s.Locs[1], s.ID = 9, 17
		holdMargin(t, -1, p, s, 2)
		s.Locs[1], s.ID = 8, 16
		flushed(t, q, 3, 99, 0, nil)
		holdClean(t, false, q, y)
		erase(t, q, 3, 99, 0)
		erase(t, q, 0, 16, 1)
		holdSafe(t, false, q, y, 2, 1)
		flushed(t, q, 0, 16, 1, shardsOf(t, 2, 1, 16)[1])
	}
}

// Two pools and tables that came about in the same way answer the same.
func TestMemorySame(t *testing.T) {
	p, x := mixed(t)
	q, y := mixed(t)
	if a, b := asked(p, x, stripeAt(32, 0, 1, 2)), asked(q, y, stripeAt(32, 0, 1, 2)); !slices.Equal(a, b) {
		t.Errorf("%v, %v", a, b)
	}
}

// Who asks of one pool and table at the same time is answered the same.
func TestMemoryTogether(t *testing.T) {
	p, x := mixed(t)
	s := stripeAt(16, 6, 8, 3)
	first := asked(p, x, s)
	all := make(chan []int)
	for range 8 {
		go func() { all <- asked(p, x, s) }()
	}
	for range 8 {
		if got := <-all; !slices.Equal(got, first) {
			t.Errorf("%v, want %v", got, first)
		}
	}
}
