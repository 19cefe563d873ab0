package shell

import (
	"maps"
	"strings"
	"testing"

	"flitting/api"
)

// The ten examples of the whole, as the document numbers them, each as a text.

// spread is a house of so many roomy drives that has the objects a, b, c .. of those data.
func spread(k, m, many int, data ...string) house {
	h := house{k: k, m: m, drives: even(many, api.MaxCap)}
	for n, each := range data {
		h = h.puts(string(rune('a'+n)), each)
	}
	return h
}

// settle is the house behind so much of the migration that nothing is left to do.
func (h house) settle(t *testing.T) house {
	t.Helper()
	for range 20 {
		if h.idle(t) {
			return h
		}
		h = h.with(moves(60))
	}
	t.Fatal("the migration has no end")
	return h
}

// 1. Put, run to its end; Get, run to its end: the data.
func TestExample1(t *testing.T) {
	eachCode(func(k, m int) {
		for size := 0; size <= api.MaxData; size += 6 {
			h := spread(k, m, k+m, long[:size])
			list, idle := h.told(t)
			if last := list[len(list)-1]; !same(last, api.Answer{Done: true, Mark: api.Changed}) || !idle {
				t.Fatalf("a Put of %d bytes ends with %+v, %t", size, last, idle)
			}
			h.holdGet(t, "a", long[:size])
		}
	})
}

// 2. Put, and a crash ahead of its end: it was not.
func TestExample2(t *testing.T) {
	for ahead := range 13 {
		h := house{k: 2, m: 1, drives: even(3, 9)}.with(call(api.Put, "key", long[:30]), runs(0, ahead))
		if h.idle(t) {
			t.Errorf("behind %d Runs nothing is to do", ahead)
		}
		h = h.with(crash(1000, 1<<64-1))
		h.holdLast(t, run(0), api.Answer{E: api.ErrNone})
		h.holdNone(t, "key")
		if a := h.ends(t, api.List, ""); len(a.Keys) > 0 || a.E != api.OK {
			t.Errorf("List: %+v", a)
		}
		h.settle(t).holdNone(t, "key")
	}
}

// 3. A drive is added: some stripes are moved; what is read meanwhile is the same.
func TestExample3(t *testing.T) {
	h := spread(2, 1, 4, long, long[10:60]).with(step(api.StepAdd, 50))
	if h.idle(t) {
		t.Fatal("nothing is to be moved")
	}
	rounds := 120
	var between strings.Builder
	for range rounds {
		between.WriteString(h.gets("a", 96) + h.gets("b", 50) + step(api.StepMove, 0))
	}
	moved := h.with(between.String())
	list, idle := moved.told(t)
	had := map[string]int{}
	for _, a := range list {
		if a.E != api.OK {
			t.Fatalf("%+v", a)
		}
		had[string(a.Data)]++
	}
	delete(had, "")
	if !maps.Equal(had, map[string]int{long: rounds, long[10:60]: rounds}) || !idle {
		t.Errorf("%v was read, %t", had, idle)
	}
	// Some are on the new drive now, so that it can not be taken away just so.
	moved.with(step(api.StepDrain, 4)).holdLast(t, step(api.StepRemove, 4), api.Answer{E: api.ErrNotDrained})
}

// 4. A drive is drained, and is one of k + m: ErrTooFew.
func TestExample4(t *testing.T) {
	eachCode(func(k, m int) {
		text := ""
		for n := range k + m {
			text += step(api.StepDrain, n)
		}
		holdText(t, k, m, even(k+m, 9), text, strings.Repeat("10 0 0 0 x\n", k+m)+"idle\n")
	})
}

// 5. A drive that is drained is removed while it has something: ErrNotDrained.
func TestExample5(t *testing.T) {
	for n := range 4 {
		h := spread(2, 1, 4, long).with(step(api.StepDrain, n))
		h.holdLast(t, step(api.StepRemove, n), api.Answer{E: api.ErrNotDrained})
		h = h.settle(t)
		h.holdLast(t, step(api.StepRemove, n), api.Answer{})
		h = h.with(step(api.StepRemove, n))
		h.holdGet(t, "a", long)
		h.holdLast(t, step(api.StepRemove, n), api.Answer{E: api.ErrNone})
	}
}

// 6. m drives are lost, whichever they are: all is read.
func TestExample6(t *testing.T) {
	eachCode(func(k, m int) {
		h := spread(k, m, k+m+1, long[:50], "data", long[:8*k])
		eachLoss(k+m+1, m, func(steps string) {
			lost := h.with(steps)
			lost.holdGet(t, "a", long[:50])
			lost.holdGet(t, "b", "data")
			lost.holdGet(t, "c", long[:8*k])
		})
	})
}

// 7. A drive is lost, and drained: its shards are made anew on others.
func TestExample7(t *testing.T) {
	for n := range 5 {
		h := spread(2, 1, 5, long, long[20:50]).with(step(api.StepLose, n), step(api.StepDrain, n))
		if h.idle(t) {
			t.Errorf("drive %d has nothing", n)
		}
		h = h.settle(t)
		h.holdLast(t, step(api.StepRemove, n), api.Answer{})
		// As safe as it was: any other one may be lost now.
		for other := range 5 {
			if other != n {
				lost := h.with(step(api.StepLose, other))
				lost.holdGet(t, "a", long)
				lost.holdGet(t, "b", long[20:50])
			}
		}
	}
}

// 8. A target has no room: the stripe is parked.
func TestExample8(t *testing.T) {
	h := spread(2, 1, 3, long).with(step(api.StepAdd, 1))
	if h.idle(t) {
		t.Fatal("nothing is to be moved")
	}
	list, idle := h.with(moves(60)).told(t)
	full := 0
	for _, a := range list {
		if a.E == api.ErrFull {
			full++
		} else if a.E != api.OK {
			t.Fatalf("%+v", a)
		}
	}
	if full == 0 || !idle {
		t.Errorf("%d stripes are parked, %t", full, idle)
	}
	h = h.with(moves(60))
	h.holdGet(t, "a", long)
	for n := range 4 {
		h.with(step(api.StepLose, n)).holdGet(t, "a", long)
	}
}

// 9. The power goes in a commit: behind the crash it was done, or was not.
func TestExample9(t *testing.T) {
	was := map[string]int{}
	for fuse := range 3 {
		for bytes := range 80 {
			h := spread(2, 1, 3, "former").with(call(api.Put, "a", "latter"), runs(0, 6), step(api.StepFuse, fuse))
			if fuse < 2 {
				h.holdLast(t, run(0), api.Answer{E: api.ErrDown, Done: true})
			} else {
				h.holdLast(t, run(0), api.Answer{Mark: api.Changed, Done: true})
			}
			h = h.with(run(0), crash(bytes, 0))
			got := h.reading(t)["a"]
			if got != "former" && got != "latter" || fuse > 0 && got != "latter" {
				t.Fatalf("Fuse(%d), Crash(%d): %q", fuse, bytes, got)
			}
			was[got]++
			for n := range 3 {
				h.with(step(api.StepLose, n)).holdGet(t, "a", got)
			}
		}
	}
	if was["former"] < 20 || was["latter"] < 20 {
		t.Errorf("so often there was: %v", was)
	}
}

// 10. One tape is lost: all is there. No step loses a side of the tape: that the power goes between both is what has one of them be without what the other has.
func TestExample10(t *testing.T) {
	for bytes := range 60 {
		h := spread(2, 1, 4, long, "data").with(call(api.Put, "c", "more"), runs(0, 6), step(api.StepFuse, 1), run(0), crash(bytes, 0))
		h.holdGet(t, "a", long)
		h.holdGet(t, "b", "data")
		h.holdGet(t, "c", "more")
		h = h.puts("d", "still more").with(crash(0, 0))
		h.holdGet(t, "c", "more")
		h.holdGet(t, "d", "still more")
	}
}
