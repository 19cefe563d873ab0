package linear

import (
	"bytes"
	"slices"
	"testing"

	"flitting/api"
	"flitting/hist"
)

// copied is calls that share nothing with these.
func copied(list []hist.Call) []hist.Call {
	list = slices.Clone(list)
	for at := range list {
		c := &list[at]
		c.Data, c.Out, c.Keys = bytes.Clone(c.Data), bytes.Clone(c.Out), slices.Clone(c.Keys)
	}
	return list
}

// sameCall holds two calls against each other, byte by byte.
func sameCall(a, b hist.Call) bool {
	return a.Task == b.Task && a.Op == b.Op && a.Key == b.Key && bytes.Equal(a.Data, b.Data) &&
		a.From == b.From && a.To == b.To && a.At == b.At && a.E == b.E &&
		bytes.Equal(a.Out, b.Out) && slices.Equal(a.Keys, b.Keys)
}

// whole is a list with the spare room behind it, and that of what its calls have.
func whole(list []hist.Call) []hist.Call {
	list = slices.Clone(list[:cap(list)])
	for at := range list {
		c := &list[at]
		c.Data, c.Out, c.Keys = c.Data[:cap(c.Data)], c.Out[:cap(c.Out)], c.Keys[:cap(c.Keys)]
	}
	return list
}

// R4: what is handed in stays as it is: the order of the calls, what each has, and the room behind all of it.
func TestMemoryGiven(t *testing.T) {
	data, keys := []byte("data, and more"), []string{"b", "a", "c", "spare", "room"}
	calls := []hist.Call{
		list(9, "a", "b"), none(8, "c"), get(7, "a", "data"), put(5, "b", "other"), put(5, "a", "data"), del(6, "c", api.ErrNone),
		moved(put(0, "z", "not done"), 3, 0, 0), moved(list(0), 2, 2, 0), put(1, "b", "first"), none(20, "spare"), get(21, "room", "x"),
	}
	calls[2].Out, calls[4].Data = data[:4], data[:4]
	calls[7].Keys = keys[:2]
	for size := range calls {
		for _, room := range []int{0, 1, 2} {
			given := calls[: size : size+min(room, len(calls)-size)]
			before, spare := copied(whole(given)), copied(calls)
			first := Check(given)
			if !slices.EqualFunc(whole(given), before, sameCall) || !slices.EqualFunc(calls, spare, sameCall) {
				t.Fatalf("what was handed in is another: %+v, %+v", whole(given), before)
			}
			if Check(given) != first {
				t.Errorf("twice the same calls: %v, then another", first)
			}
		}
	}
	hold(t, true, calls[:9]...)
}

// R4, R5: what is handed in is not kept, nor anything of it: each Check begins with nothing.
func TestMemoryNotKept(t *testing.T) {
	for range 3 {
		calls := []hist.Call{put(1, "a", "x"), get(2, "a", "x"), list(3, "a")}
		hold(t, true, calls...)
		hold(t, true, none(4, "a"), list(5))
		hold(t, false, get(4, "a", "x"))
		// The same memory with other calls in it.
		calls[0].Data[0] = 'y'
		hold(t, false, calls...)
		calls[1].Out[0] = 'y'
		hold(t, true, calls...)
		calls[2].Keys[0] = "b"
		hold(t, false, calls...)
		calls[0].Key, calls[1].Key = "b", "b"
		hold(t, true, calls...)
	}
}

// R4: lists of several calls may be one and the same memory.
func TestMemoryShared(t *testing.T) {
	all := []byte("abcdef")
	var calls []hist.Call
	for at := range all {
		c, g := put(1, string(all[at]), ""), get(2, string(all[at]), "")
		c.Data, g.Out = all[at:], all[at:]
		calls = append(calls, c, g)
	}
	hold(t, true, calls...)
	calls[0].Data = all[:5]
	hold(t, false, calls...)
}

// R5: the same calls have the same answer, also when others are asked about at the same time.
func TestMemoryApart(t *testing.T) {
	right := []hist.Call{put(1, "a", "x"), get(2, "a", "x"), list(3, "a")}
	wrong := []hist.Call{put(1, "a", "x"), none(2, "a"), list(3, "a")}
	ended := make(chan int)
	for range 8 {
		go func() {
			bad := 0
			for range 500 {
				if !Check(right) || Check(wrong) {
					bad++
				}
			}
			ended <- bad
		}()
	}
	for range 8 {
		if bad := <-ended; bad > 0 {
			t.Errorf("%d answers are others", bad)
		}
	}
}
