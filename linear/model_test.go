package linear

import (
	"bytes"
	"fmt"
	"math"
	"slices"
	"testing"

	"flitting/api"
	"flitting/hist"
)

// seeded is a row of numbers that follow a rule.
type seeded uint64

// below is the next number of the row, from 0 to below n.
func (s *seeded) below(n int) int {
	*s = *s*6364136223846793005 + 1442695040888963407
	return int(uint64(*s) >> 33 % uint64(n))
}

// one is one of these.
func one[T any](s *seeded, of ...T) T {
	return of[s.below(len(of))]
}

// ahead tells whether a call is done ahead of another, by their places in the list.
func ahead(list []hist.Call, a, b int) bool {
	x, y := list[a].At, list[b].At
	return x > 0 && (x < y || x == y && a < b)
}

// had is what a key has when a call is about to be done: what the last one ahead of it made of that, without any map.
func had(list []hist.Call, at int, key string) ([]byte, bool) {
	last := -1
	for other, c := range list {
		changes := c.Key == key && (c.Op == api.Del || c.Op == api.Put && c.E == api.OK)
		if changes && ahead(list, other, at) && (last < 0 || ahead(list, last, other)) {
			last = other
		}
	}
	if last < 0 || list[last].Op == api.Del {
		return nil, false
	}
	return list[last].Data, true
}

// keysAt is the keys that are there when a call is about to be done.
func keysAt(list []hist.Call, at int) []string {
	var keys []string
	for _, c := range list {
		if _, ok := had(list, at, c.Key); ok {
			keys = append(keys, c.Key)
		}
	}
	slices.Sort(keys)
	return slices.Compact(keys)
}

// right tells whether one call of a list is.
func right(list []hist.Call, at int) bool {
	c := list[at]
	if c.At <= 0 {
		return true
	}
	if c.At < c.From || c.To > 0 && c.To < c.At {
		return false
	}
	data, ok := had(list, at, c.Key)
	switch {
	case c.Op == api.Put:
		return true
	case c.Op == api.Del:
		return ok && c.E == api.OK || !ok && c.E == api.ErrNone
	case c.To == 0:
		return true
	case c.Op == api.Get:
		return ok && c.E == api.OK && bytes.Equal(c.Out, data) || !ok && c.E == api.ErrNone || c.E == api.ErrLost
	}
	return c.E == api.OK && slices.Equal(c.Keys, keysAt(list, at))
}

// told is Check, told another way: each call for itself.
func told(list []hist.Call) bool {
	for at := range list {
		if !right(list, at) {
			return false
		}
	}
	return true
}

// history is calls of any moments, in any places, each answered as it should be.
func (s *seeded) history(many int) []hist.Call {
	list := make([]hist.Call, many)
	for at := range list {
		moment := s.below(2*many) - many/8
		list[at] = hist.Call{
			Task: s.below(9),
			Op:   one(s, 1, 1, 2, 2, 3, 4, 5, -1),
			Key:  one(s, "", "a", "b", "\xff"),
			At:   moment,
			From: moment - s.below(3),
			To:   one(s, 0, -1, max(moment, 1), max(moment, 0)+1),
		}
	}
	for at := range list {
		s.set(&list[at])
	}
	// What a call should answer hangs on Puts and Dels, not on what these answer: the Puts are set by now.
	for at := range list {
		s.answer(list, at)
	}
	return list
}

// set has a Put be one of any data, be it that of another, and maybe fail.
func (s *seeded) set(c *hist.Call) {
	if c.Op == api.Put {
		c.Data = []byte(one(s, "", "x", "y", fmt.Sprint(s.below(99))))
		c.E = one(s, api.OK, api.OK, api.OK, api.ErrFull, api.ErrDown)
	}
}

// answer has a call answer what it should.
func (s *seeded) answer(list []hist.Call, at int) {
	c := &list[at]
	data, ok := had(list, at, c.Key)
	switch c.Op {
	case api.Put:
	case api.Get:
		c.Out = bytes.Clone(data)
		if !ok {
			c.E = api.ErrNone
		}
		if s.below(9) == 0 {
			c.E = api.ErrLost
		}
	case api.Del:
		if !ok {
			c.E = api.ErrNone
		}
	default:
		c.Keys = keysAt(list, at)
	}
}

// spoil has something of a call be another.
func (s *seeded) spoil(c *hist.Call) {
	moment := s.below(30)
	switch s.below(10) {
	case 0:
		c.Op = one(s, 1, 2, 3, 4, 5, -1, math.MinInt64)
	case 1:
		c.Key = one(s, "", "a", "b", "\xff", "c")
	case 2:
		c.Data = []byte(one(s, "", "x", "y"))
	case 3:
		c.Out = []byte(one(s, "", "x", "y"))
	case 4:
		c.E = one(s, api.OK, api.ErrNone, api.ErrLost, api.ErrDown, -1)
	case 5:
		c.At = one(s, 0, -1, moment, c.From, c.To, c.From-1, c.To+1)
	case 6:
		c.From = one(s, c.At, c.At+1, moment)
	case 7:
		c.To = one(s, c.At, c.At-1, 0, -1, moment)
	case 8:
		c.Keys = append(slices.Clone(c.Keys), one(s, "", "a", "c"))
	case 9:
		if len(c.Keys) > 0 {
			c.Keys = slices.Delete(slices.Clone(c.Keys), 0, 1)
		}
	}
}

// Long rows of calls that are answered as they should be, and with one thing and more that is another, against what is told another way.
func TestModel(t *testing.T) {
	t.Parallel()
	was := map[bool]int{}
	for seed := range seeded(6000) {
		s := seed
		list := s.history(1 + s.below(40))
		hold(t, true, list...)
		for range 6 {
			s.spoil(&list[s.below(len(list))])
			want := told(list)
			hold(t, want, list...)
			was[want]++
		}
	}
	if was[true] < 5000 || was[false] < 5000 {
		t.Errorf("so many were right, and wrong: %v", was)
	}
}

// All rows of up to three calls out of those that differ in one thing.
func TestAllShort(t *testing.T) {
	t.Parallel()
	var some []hist.Call
	for _, at := range []int{0, 1, 2} {
		for _, e := range []api.Errno{api.OK, api.ErrNone, api.ErrLost} {
			for _, key := range []string{"", "a"} {
				some = append(some, moved(fails(put(0, key, key), e), 1, at, 2), moved(del(0, key, e), 1, at, 2))
				for _, to := range []int{0, 2} {
					some = append(some, moved(fails(get(0, key, "a"), e), 1, at, to))
				}
			}
			some = append(some, moved(fails(list(0, "a"), e), 1, at, 2))
		}
		some = append(some, moved(list(0), 1, at, 2), moved(list(0, "", "a"), 1, at, 2), moved(list(0, "a"), 1, at, 0))
	}
	was := map[bool]int{}
	for _, a := range some {
		hold(t, told([]hist.Call{a}), a)
		for _, b := range some {
			hold(t, told([]hist.Call{a, b}), a, b)
			for _, c := range some {
				want := told([]hist.Call{a, b, c})
				was[want]++
				if Check([]hist.Call{a, b, c}) != want {
					t.Fatalf("Check(%+v, %+v, %+v) = %v", a, b, c, !want)
				}
			}
		}
	}
	if was[true] < 10000 || was[false] < 10000 {
		t.Errorf("so many were right, and wrong: %v", was)
	}
}
