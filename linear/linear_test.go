package linear

import (
	"fmt"
	"math"
	"slices"
	"testing"

	"flitting/api"
	"flitting/hist"
)

// far is numbers that are far apart: no operation, and no error, has one of them.
func far() []int {
	return []int{math.MinInt64, -1 << 32, -1, 14, 1 << 8, 1<<32 - 1, 1 << 32, 1<<32 + 2, math.MaxInt64}
}

// errnos is the errors that there are, and others.
func errnos() []api.Errno {
	list := []api.Errno{}
	for e := api.OK; e <= api.ErrText; e++ {
		list = append(list, e)
	}
	for _, n := range far() {
		list = append(list, api.Errno(n))
	}
	return list
}

// others is the errors without those named.
func others(but ...api.Errno) []api.Errno {
	return slices.DeleteFunc(errnos(), func(e api.Errno) bool {
		return slices.Contains(but, e)
	})
}

// call is one that began, was done and ended at one moment.
func call(op, at int, key string, e api.Errno) hist.Call {
	return hist.Call{Op: op, Key: key, From: at, At: at, To: at, E: e}
}

func put(at int, key, data string) hist.Call {
	c := call(api.Put, at, key, api.OK)
	c.Data = []byte(data)
	return c
}

func del(at int, key string, e api.Errno) hist.Call {
	return call(api.Del, at, key, e)
}

func get(at int, key, out string) hist.Call {
	c := call(api.Get, at, key, api.OK)
	c.Out = []byte(out)
	return c
}

// none is a Get of what is not there.
func none(at int, key string) hist.Call {
	return call(api.Get, at, key, api.ErrNone)
}

func list(at int, keys ...string) hist.Call {
	c := call(api.List, at, "", api.OK)
	c.Keys = keys
	return c
}

// moved is c with other moments.
func moved(c hist.Call, from, at, to int) hist.Call {
	c.From, c.At, c.To = from, at, to
	return c
}

// fails is c with another error.
func fails(c hist.Call, e api.Errno) hist.Call {
	c.E = e
	return c
}

func hold(t *testing.T, want bool, calls ...hist.Call) {
	t.Helper()
	if got := Check(calls); got != want {
		t.Fatalf("Check(%+v) = %v", calls, got)
	}
}

// behind holds that what calls leave behind is this: a key and its data, one behind the other.
func behind(t *testing.T, calls []hist.Call, pairs ...string) {
	t.Helper()
	const late = math.MaxInt64
	calls = slices.Clip(calls)
	var keys []string
	for at := 0; at < len(pairs); at += 2 {
		keys = append(keys, pairs[at])
		hold(t, true, append(calls, get(late, pairs[at], pairs[at+1]))...)
		hold(t, false, append(calls, get(late, pairs[at], pairs[at+1]+"x"))...)
		hold(t, false, append(calls, none(late, pairs[at]))...)
	}
	for _, key := range []string{"", "a", "b", "c"} {
		if !slices.Contains(keys, key) {
			hold(t, true, append(calls, none(late, key))...)
			hold(t, false, append(calls, get(late, key, ""))...)
		}
	}
	slices.Sort(keys)
	hold(t, true, append(calls, list(late, keys...))...)
	hold(t, false, append(calls, list(late, append(keys, "x")...))...)
}

// P22.1: no calls at all.
func TestNoCalls(t *testing.T) {
	hold(t, true)
	if !Check(nil) || !Check([]hist.Call{}) {
		t.Error("no calls: false")
	}
	behind(t, nil)
}

// Example 1: a Get that answers what was never put.
func TestExample(t *testing.T) {
	hold(t, false, get(1, "a", "data"))
	hold(t, false, put(1, "a", "other"), get(2, "a", "data"))
	hold(t, false, put(1, "b", "data"), get(2, "a", "data"))
	hold(t, true, put(1, "a", "data"), get(2, "a", "data"))
}

// P22.1: calls of several clients, each done between its beginning and its end.
func TestOrdinary(t *testing.T) {
	hold(t, true,
		none(1, "a"),
		list(2),
		del(3, "a", api.ErrNone),
		put(4, "b", "one"),
		put(5, "a", "two"),
		list(6, "a", "b"),
		get(7, "a", "two"),
		get(8, "b", "one"),
		del(9, "a", api.OK),
		none(10, "a"),
		list(11, "b"),
		get(12, "b", "one"),
		put(13, "b", "three"),
		get(14, "b", "three"),
		del(15, "b", api.OK),
		del(16, "b", api.ErrNone),
		list(17))
	// Three at a time: what a Get answers is what there was when it looked, not what there is when it ends.
	first, second := moved(put(0, "a", "one"), 1, 4, 4), moved(put(0, "a", "two"), 2, 6, 6)
	for look, want := range map[int]string{5: "one", 7: "two"} {
		hold(t, true, first, second, moved(get(0, "a", want), 3, look, 8))
	}
	hold(t, true, first, second, moved(none(0, "a"), 2, 3, 8))
	hold(t, false, first, second, moved(get(0, "a", "two"), 3, 5, 8))
	hold(t, false, first, second, moved(get(0, "a", "one"), 3, 7, 8))
	hold(t, false, first, second, moved(none(0, "a"), 3, 5, 8))
}

// P22.1: calls whose At is 0 or below were not done: they may be whatever they are, and change nothing.
func TestNotDone(t *testing.T) {
	for _, at := range []int{0, -1, -2, -1 << 40, math.MinInt64} {
		for _, from := range []int{math.MinInt64, -1, 0, 1, 9, math.MaxInt64} {
			for _, to := range []int{math.MinInt64, -1, 0, 1, 9, math.MaxInt64} {
				for _, c := range []hist.Call{put(0, "a", "x"), del(0, "b", api.OK), get(0, "c", "x"), list(0, "x"), call(9, 0, "b", api.ErrArg)} {
					for _, e := range []api.Errno{api.OK, api.ErrNone, api.ErrLost, api.ErrDown, -1} {
						c := fails(moved(c, from, at, to), e)
						hold(t, true, c)
						hold(t, true, put(3, "b", "y"), c, list(4, "b"), get(5, "b", "y"), none(6, "a"))
						hold(t, false, put(3, "b", "y"), c, get(4, "a", "x"))
					}
				}
			}
		}
	}
	behind(t, []hist.Call{moved(put(0, "a", "x"), 0, 0, 0), moved(put(0, "b", "x"), -3, -2, 0)})
	behind(t, []hist.Call{put(1, "a", "y"), moved(put(0, "a", "x"), 1, 0, 9), moved(del(0, "a", api.OK), 1, -1, 9)}, "a", "y")
	behind(t, []hist.Call{moved(put(0, "a", "x"), 1, 1, 1)}, "a", "x")
}

// P22.1: it is At by which calls are done, wherever they stand, and whatever else they have.
func TestOrder(t *testing.T) {
	calls := []hist.Call{put(1, "a", "one"), get(2, "a", "one"), put(3, "a", "two"), get(4, "a", "two"), del(5, "a", api.OK), none(6, "a")}
	var places func(done, rest []hist.Call)
	places = func(done, rest []hist.Call) {
		if len(rest) == 0 {
			hold(t, true, done...)
			return
		}
		for at := range rest {
			places(append(slices.Clone(done), rest[at]), slices.Delete(slices.Clone(rest), at, at+1))
		}
	}
	places(nil, calls)
	// Neither From, To nor the task's number sorts them.
	one, two := moved(put(0, "a", "one"), 1, 5, 9), moved(put(0, "a", "two"), 2, 4, 6)
	one.Task, two.Task = 1, 2
	behind(t, []hist.Call{one, two}, "a", "one")
	behind(t, []hist.Call{two, one}, "a", "one")
	one, two = moved(one, 2, 4, 6), moved(two, 1, 5, 9)
	behind(t, []hist.Call{one, two}, "a", "two")
	behind(t, []hist.Call{two, one}, "a", "two")
	one, two = moved(one, 3, 4, 9), moved(two, 3, 5, 5)
	behind(t, []hist.Call{one, two}, "a", "two")
	behind(t, []hist.Call{two, one}, "a", "two")
	one.Task, two.Task = 2, 1
	behind(t, []hist.Call{one, two}, "a", "two")
	behind(t, []hist.Call{two, one}, "a", "two")
	// Not as texts, nor as any fewer bits.
	for _, pair := range [][2]int{{2, 10}, {9, 10}, {255, 256}, {1<<31 - 1, 1 << 31}, {1, 1 << 32}, {2, 1<<32 + 1}, {math.MaxInt64 - 1, math.MaxInt64}} {
		behind(t, []hist.Call{put(pair[0], "a", "one"), put(pair[1], "a", "two")}, "a", "two")
		behind(t, []hist.Call{put(pair[1], "a", "two"), put(pair[0], "a", "one")}, "a", "two")
	}
}

// P22.1: calls with equal At are done as they stand.
func TestEqual(t *testing.T) {
	for _, at := range []int{1, 2, 1 << 40, math.MaxInt64} {
		hold(t, true, put(at, "a", "x"), get(at, "a", "x"), del(at, "a", api.OK), none(at, "a"))
		hold(t, true, none(at, "a"), put(at, "a", "x"), get(at, "a", "x"), del(at, "a", api.OK))
		hold(t, false, get(at, "a", "x"), put(at, "a", "x"))
		hold(t, false, put(at, "a", "x"), none(at, "a"))
		hold(t, false, del(at, "a", api.OK), put(at, "a", "x"))
		behind(t, []hist.Call{put(at, "a", "x"), put(at, "a", "y")}, "a", "y")
		behind(t, []hist.Call{put(at, "a", "y"), put(at, "a", "x")}, "a", "x")
		behind(t, []hist.Call{put(at, "a", "x"), del(at, "a", api.OK)})
		behind(t, []hist.Call{del(at, "a", api.ErrNone), put(at, "a", "x")}, "a", "x")
	}
	// Nothing else that they have sorts them.
	one, two := moved(put(0, "a", "one"), 5, 5, 9), moved(put(0, "a", "two"), 3, 5, 6)
	for _, tasks := range [][2]int{{0, 0}, {1, 2}, {2, 1}} {
		one.Task, two.Task = tasks[0], tasks[1]
		behind(t, []hist.Call{one, two}, "a", "two")
		behind(t, []hist.Call{two, one}, "a", "one")
	}
}

// P22.1: however many calls have one At.
func TestEqualMany(t *testing.T) {
	var calls []hist.Call
	for n := range 300 {
		data := fmt.Sprint(n)
		for at := range 3 {
			key := string(rune('a' + at))
			calls = append(calls, put(1+at, key, data), moved(get(0, key, data), 1, 1+at, 9))
		}
	}
	behind(t, calls, "a", "299", "b", "299", "c", "299")
	for _, at := range []int{0, 2, 4, 300, 301, 305, 1200} {
		other := slices.Clone(calls)
		other[at], other[at+6] = other[at+6], other[at]
		hold(t, false, other...)
	}
}

// P22.1: an At is from From to To, both of them included.
func TestWithin(t *testing.T) {
	for _, c := range []hist.Call{put(0, "a", "x"), fails(put(0, "a", "x"), api.ErrFull), del(0, "a", api.ErrNone), none(0, "a"), fails(none(0, "a"), api.ErrLost), list(0), call(0, 0, "", api.OK), call(-7, 0, "", api.OK)} {
		for at := 1; at < 9; at++ {
			for from := -2; from < 11; from++ {
				for to := -2; to < 11; to++ {
					want := from <= at && (to <= 0 || at <= to)
					hold(t, want, moved(c, from, at, to))
					hold(t, want, put(1, "b", "y"), del(1, "b", api.OK), moved(c, from, at, to), put(9, "a", "x"))
				}
			}
		}
	}
}

// P22.1: a call that was done at no moment of its own makes all wrong, wherever it stands, and however right its answer.
func TestWithinWherever(t *testing.T) {
	calls := []hist.Call{moved(put(0, "a", "x"), 1, 2, 3), moved(get(0, "a", "x"), 1, 3, 4), moved(list(0, "a"), 2, 4, 4), moved(del(0, "a", api.OK), 5, 5, 6), moved(none(0, "a"), 5, 6, 6)}
	hold(t, true, calls...)
	for at, c := range calls {
		for _, other := range []hist.Call{moved(c, c.At+1, c.At, c.To), moved(c, c.From, c.At, c.At-1), moved(c, c.At+1, c.At, 0), moved(c, c.At+1, c.At, c.At-1)} {
			list := slices.Clone(calls)
			list[at] = other
			hold(t, false, list...)
		}
	}
}

// P22.1: numbers at their ends.
func TestFar(t *testing.T) {
	ends := []int{math.MinInt64, math.MinInt64 + 1, -1, 0, 1, 2, 1<<31 - 1, 1 << 31, 1 << 32, math.MaxInt64 - 1, math.MaxInt64}
	for _, at := range ends {
		for _, from := range ends {
			for _, to := range ends {
				want := at <= 0 || from <= at && (to <= 0 || at <= to)
				for _, c := range []hist.Call{put(0, "a", "x"), del(0, "a", api.ErrNone), none(0, "a"), list(0)} {
					hold(t, want, moved(c, from, at, to))
				}
			}
		}
	}
	for _, task := range ends {
		c := put(5, "a", "x")
		c.Task = task
		behind(t, []hist.Call{c}, "a", "x")
	}
}

// P22.1: of a To of 0 there is no end, and nothing was told; of one below 0 there is none either, but what was told counts. A Put and a Del count anyway.
func TestNoEnd(t *testing.T) {
	there := put(1, "a", "x")
	for _, to := range []int{0, -1, -2, -1 << 40, math.MinInt64} {
		at := func(c hist.Call) hist.Call {
			return moved(c, 1, 5, to)
		}
		told := to == 0
		for _, e := range others(api.OK) {
			hold(t, told || e == api.ErrLost, there, at(fails(get(0, "a", "x"), e)))
			hold(t, told, there, at(fails(list(0, "a"), e)))
			hold(t, told, there, at(fails(call(7, 0, "", 0), e)))
			behind(t, []hist.Call{there, at(fails(put(0, "a", "y"), e))}, "a", "x")
			hold(t, false, there, at(del(0, "a", e)))
			hold(t, e == api.ErrNone, there, at(del(0, "b", e)))
		}
		hold(t, told, there, at(get(0, "a", "")))
		hold(t, told, there, at(get(0, "b", "")))
		hold(t, told, there, at(list(0)))
		hold(t, told, there, at(call(7, 0, "", api.OK)))
		hold(t, true, there, at(get(0, "a", "x")))
		hold(t, true, there, at(none(0, "b")))
		hold(t, true, there, at(list(0, "a")))
		behind(t, []hist.Call{there, at(put(0, "a", "y"))}, "a", "y")
		behind(t, []hist.Call{there, at(put(0, "b", "y"))}, "a", "x", "b", "y")
		behind(t, []hist.Call{there, at(del(0, "a", api.OK))})
		hold(t, false, there, at(del(0, "b", api.OK)))
	}
	// Where there is no end, the beginning counts all the same.
	for _, c := range []hist.Call{put(0, "b", "y"), del(0, "a", api.OK), get(0, "a", "x"), list(0, "a")} {
		for _, to := range []int{0, -1, math.MinInt64} {
			hold(t, true, there, moved(c, 5, 5, to))
			hold(t, true, there, moved(c, 5, math.MaxInt64, to))
			hold(t, false, there, moved(c, 6, 5, to))
		}
	}
}

// P22.1: a Put that is OK has its key have its data, be it there or not; one that is not OK has nothing be another. All are right.
func TestPut(t *testing.T) {
	behind(t, []hist.Call{put(1, "a", "x")}, "a", "x")
	behind(t, []hist.Call{put(1, "a", "x"), put(2, "b", "y")}, "a", "x", "b", "y")
	behind(t, []hist.Call{put(1, "a", "x"), put(2, "a", "y")}, "a", "y")
	behind(t, []hist.Call{put(1, "a", "x"), put(2, "a", "x")}, "a", "x")
	behind(t, []hist.Call{put(1, "a", "longer"), put(2, "a", "x"), put(3, "a", "longest")}, "a", "longest")
	behind(t, []hist.Call{put(1, "a", "x"), del(2, "a", api.OK), put(3, "a", "y")}, "a", "y")
	for _, e := range others(api.OK) {
		no := fails(put(2, "a", "y"), e)
		behind(t, []hist.Call{no})
		behind(t, []hist.Call{put(1, "a", "x"), no}, "a", "x")
		behind(t, []hist.Call{put(1, "b", "x"), no, put(3, "c", "z")}, "b", "x", "c", "z")
		behind(t, []hist.Call{put(1, "a", "x"), no, put(3, "a", "z")}, "a", "z")
		hold(t, true, put(1, "a", "x"), no, del(2, "a", api.OK), fails(no, 0), del(2, "a", api.OK))
	}
}

// P22.1: a Del takes its key away; it is OK if that was there, ErrNone if not, and never anything else.
func TestDel(t *testing.T) {
	there := put(1, "a", "x")
	for _, e := range errnos() {
		hold(t, e == api.OK, there, del(2, "a", e))
		hold(t, e == api.ErrNone, del(2, "a", e))
		hold(t, e == api.ErrNone, there, del(2, "b", e))
		hold(t, e == api.ErrNone, there, del(2, "", e))
		hold(t, e == api.ErrNone, there, del(2, "a", api.OK), del(3, "a", e))
		hold(t, e == api.OK, there, del(2, "a", api.OK), put(3, "a", "x"), del(4, "a", e))
		hold(t, e == api.OK, put(1, "a", ""), del(2, "a", e))
		hold(t, e == api.ErrNone, fails(there, api.ErrFull), del(2, "a", e))
	}
	behind(t, []hist.Call{there, del(2, "a", api.OK)})
	behind(t, []hist.Call{there, del(2, "b", api.ErrNone)}, "a", "x")
	behind(t, []hist.Call{there, put(1, "b", "y"), del(2, "a", api.OK)}, "b", "y")
	behind(t, []hist.Call{there, put(1, "b", "y"), del(2, "b", api.OK), del(2, "b", api.ErrNone)}, "a", "x")
}

// P22.1: a Get answers what its key has, or that it has nothing, or that that is lost.
func TestGet(t *testing.T) {
	there := []hist.Call{put(1, "a", "x"), put(1, "b", "")}
	for _, e := range errnos() {
		lost := e == api.ErrLost
		for _, out := range []string{"", "x", "y", "xx"} {
			for key, had := range map[string]string{"a": "x", "b": ""} {
				hold(t, lost || e == api.OK && out == had, append(there, fails(get(2, key, out), e))...)
			}
			hold(t, lost || e == api.ErrNone, append(there, fails(get(2, "c", out), e))...)
			hold(t, lost || e == api.ErrNone, fails(get(2, "a", out), e))
		}
		hold(t, lost || e == api.ErrNone, append(there, del(2, "a", api.OK), fails(get(2, "a", "x"), e))...)
	}
	// What one has seen changes nothing.
	behind(t, []hist.Call{put(1, "a", "x"), fails(get(2, "a", "x"), api.ErrLost)}, "a", "x")
	behind(t, []hist.Call{put(1, "a", "x"), get(2, "a", "x"), none(2, "b")}, "a", "x")
	behind(t, []hist.Call{put(1, "a", "x"), moved(get(0, "b", "y"), 1, 2, 0)}, "a", "x")
}

// P22.1: all bytes of the data count, and how many there are.
func TestData(t *testing.T) {
	all := make([]byte, api.MaxData+9)
	for at := range all {
		all[at] = byte(at * 5)
	}
	for size := range all {
		data := string(all[:size])
		hold(t, true, put(1, "a", data), get(2, "a", data))
		hold(t, false, put(1, "a", data), get(2, "a", data+"\x00"))
		hold(t, false, put(1, "a", data+"\x00"), get(2, "a", data))
		for at := range size {
			other := []byte(data)
			other[at] ^= 1 << (at % 8)
			hold(t, false, put(1, "a", data), get(2, "a", string(other)))
		}
	}
}

// P22.1, R4: data that is nil, and data that is empty, is the same; and what has it is there.
func TestNoData(t *testing.T) {
	empty := [][]byte{nil, {}, []byte("data")[:0]}
	for _, data := range empty {
		there := put(1, "a", "")
		there.Data = data
		for _, out := range empty {
			c := get(2, "a", "")
			c.Out = out
			hold(t, true, there, c)
			hold(t, false, put(1, "a", "x"), c)
			hold(t, false, c)
			c.E = api.ErrNone
			hold(t, false, there, c)
			hold(t, true, c)
		}
		hold(t, false, there, get(2, "a", "data"))
		behind(t, []hist.Call{there}, "a", "")
		behind(t, []hist.Call{put(1, "a", "x"), there}, "a", "")
		behind(t, []hist.Call{there, put(1, "a", "x")}, "a", "x")
	}
}

// P22.1: a List, and what is none of the four, answers OK and all keys, rising.
func TestList(t *testing.T) {
	there := []hist.Call{put(1, "b", "x"), put(1, "c", "y"), put(1, "a", "z")}
	// Another Op is as a List.
	for _, op := range append(far(), api.List, 0, 5, 6) {
		is := func(want bool, calls []hist.Call, keys ...string) {
			t.Helper()
			c := list(2, keys...)
			c.Op = op
			hold(t, want, append(slices.Clone(calls), c)...)
		}
		is(true, nil)
		is(false, nil, "")
		is(false, nil, "a")
		is(true, there[:1], "b")
		is(true, there, "a", "b", "c")
		for _, keys := range [][]string{
			{}, {"a"}, {"b"}, {"a", "b"}, {"b", "c"}, {"a", "c"},
			{"c", "b", "a"}, {"a", "c", "b"}, {"b", "a", "c"}, {"b", "c", "a"},
			{"a", "b", "c", "d"}, {"", "a", "b", "c"}, {"a", "b", "bb", "c"}, {"a", "b", "c", ""},
			{"a", "a", "b", "c"}, {"a", "b", "b", "c"}, {"a", "b", "c", "c"}, {"a", "a", "b"}, {"a", "b", "b"}, {"b", "c", "c"},
			{"a", "b", "d"}, {"A", "b", "c"}, {"a", "b", "c "}, {"abc"}, {"a", "bc"},
		} {
			is(false, there, keys...)
		}
		is(true, append(slices.Clip(there), del(1, "b", api.OK)), "a", "c")
		is(false, append(slices.Clip(there), del(1, "b", api.OK)), "a", "b", "c")
		is(true, append(slices.Clip(there), put(1, "b", "more")), "a", "b", "c")
		is(true, append(slices.Clip(there), fails(put(1, "d", "more"), api.ErrDown)), "a", "b", "c")
		is(true, append(slices.Clip(there), moved(put(0, "d", "more"), 1, 0, 0)), "a", "b", "c")
		is(true, append(slices.Clip(there), put(3, "d", "more")), "a", "b", "c")
		for _, e := range others(api.OK) {
			for _, keys := range [][]string{nil, {"a", "b", "c"}} {
				c := fails(list(2, keys...), e)
				c.Op = op
				hold(t, false, append(slices.Clip(there), c)...)
				hold(t, false, c)
			}
		}
		c := list(2, "a", "b", "c")
		c.Op, c.Key = op, "b"
		behind(t, append(slices.Clip(there), c), "b", "x", "c", "y", "a", "z")
	}
	// As in texts, by bytes.
	for _, keys := range [][]string{nil, {}} {
		hold(t, true, hist.Call{Op: api.List, From: 1, At: 1, To: 1, Keys: keys})
		hold(t, false, put(1, "a", ""), hist.Call{Op: api.List, From: 1, At: 1, To: 1, Keys: keys})
	}
}

// P22.1: keys of any bytes, rising by these, the empty one the least.
func TestKeys(t *testing.T) {
	keys := []string{"", "\x00", "\x00\x00", "\x00\xff", "\n", " ", "0", "10", "9", "A", "B", "a", "a\x00", "a key of more bytes than a key may have", "aa", "b", "\x7f", "\x80", "\xc3", "é", "ÿ", "Ā", "世", "\uffff", "𐀀", "\xff", "\xff\x00", "\xff\xff"}
	var calls []hist.Call
	for at, key := range keys {
		calls = append(calls, put(1+at*11%len(keys), key, fmt.Sprint(at)))
	}
	hold(t, true, append(calls, list(99, keys...))...)
	for at, key := range keys {
		hold(t, true, append(calls, get(99, key, fmt.Sprint(at)))...)
		hold(t, false, append(calls, get(99, key, fmt.Sprint(at+1)))...)
		hold(t, false, append(calls, none(99, key))...)
		hold(t, true, append(calls, none(99, key+"\x01"))...)
		less := slices.Delete(slices.Clone(keys), at, at+1)
		hold(t, false, append(calls, list(99, less...))...)
		hold(t, true, append(calls, del(98, key, api.OK), none(99, key), list(99, less...))...)
		if at > 0 {
			other := slices.Clone(keys)
			other[at-1], other[at] = other[at], other[at-1]
			hold(t, false, append(calls, list(99, other...))...)
			other = slices.Clone(keys)
			other[at] = other[at-1]
			hold(t, false, append(calls, list(99, other...))...)
		}
	}
	behind(t, []hist.Call{put(1, "", "x")}, "", "x")
	behind(t, []hist.Call{put(1, "", "x"), put(1, "a", "y"), del(1, "", api.OK)}, "a", "y")
}

// P22.1: what the promise does not ask of a call may be anything.
func TestWhatDoesNotCount(t *testing.T) {
	calls := []hist.Call{put(1, "a", "x"), get(2, "a", "x"), none(2, "b"), fails(get(2, "a", ""), api.ErrLost), list(3, "a"), call(77, 3, "", api.OK), del(4, "a", api.OK), del(5, "a", api.ErrNone), none(6, "a"), list(7)}
	calls[5].Keys = []string{"a"}
	hold(t, true, calls...)
	for at := range calls {
		other := slices.Clone(calls)
		c := &other[at]
		c.Task = -5
		op := c.Op
		if op != api.Put {
			c.Data = []byte("data")
		}
		if op != api.Get || c.E != api.OK {
			c.Out = []byte("out")
		}
		if op == api.Put || op == api.Get || op == api.Del {
			c.Keys = []string{"z", "a", "z"}
		} else {
			c.Key = "key"
		}
		hold(t, true, other...)
	}
}

// P22.1: one answer that is wrong makes all wrong, wherever it stands, and whatever comes behind it.
func TestOneWrong(t *testing.T) {
	calls := []hist.Call{none(1, "a"), put(2, "a", "x"), get(3, "a", "x"), list(4, "a"), del(5, "a", api.OK), del(6, "a", api.ErrNone), list(7), none(8, "a")}
	hold(t, true, calls...)
	for at := range calls {
		for _, wrong := range []hist.Call{get(0, "a", "y"), get(0, "b", ""), fails(none(0, "a"), api.ErrDown), list(0, "b"), fails(list(0), api.ErrNone), del(0, "b", api.OK), del(0, "b", api.ErrLost)} {
			wrong = moved(wrong, at+1, at+1, at+1)
			for place := 0; place <= len(calls); place++ {
				hold(t, false, slices.Insert(slices.Clone(calls), place, wrong)...)
			}
		}
	}
}
