package store

import (
	"maps"
	"slices"
	"testing"

	"flitting/api"
	"flitting/plan"
)

// The ten examples of the whole, as the document numbers them.

// 1. Put, run to its end; Get, run to its end: the data.
func TestExample1(t *testing.T) {
	for size := range api.MaxData + 1 {
		s := made(t, 3, 2, even(5, 9))
		put(t, s, "key", text[:size])
		holdGet(t, s, "key", text[:size])
	}
}

// 2. Put, and a crash ahead of its end: it was not.
func TestExample2(t *testing.T) {
	for ahead := range 13 {
		s := made(t, 2, 1, even(3, 9))
		began(t, s, api.Put, "key", "twice eight bytes, and more", 0)
		goes(t, s, 0, ahead)
		holdOK(t, s, crash(1000, 1<<64-1))
		holdNone(t, s, "key")
		holdWhole(t, s, api.List, "", "", api.Answer{Mark: api.Looked})
		holdE(t, s, api.ErrNone, step(api.StepRun, 0))
		settle(t, s)
		holdSettled(t, s)
	}
}

// 3. A drive is added: some stripes are moved; what is read meanwhile is the same.
func TestExample3(t *testing.T) {
	s := spread(t, 2, 1, 4, text, text[10:60])
	holdOK(t, s, step(api.StepAdd, 50))
	if len(plan.Wrong(s.Table(), 3)) == 0 {
		t.Fatal("nothing is to be moved")
	}
	for !s.Idle() {
		holdGet(t, s, "a", text)
		holdGet(t, s, "b", text[10:60])
		holdOK(t, s, step(api.StepMove, 0))
		holdSafe(t, s)
	}
	holdSettled(t, s)
	if len(s.Pool().Held(4)) == 0 {
		t.Error("the new drive has nothing")
	}
	holdGet(t, s, "a", text)
}

// 4. A drive is drained, and is one of k + m: ErrTooFew.
func TestExample4(t *testing.T) {
	eachCode(func(k, m int) {
		s := made(t, k, m, even(k+m, 9))
		for n := range k + m {
			holdRefused(t, s, api.ErrTooFew, step(api.StepDrain, n))
		}
	})
}

// 5. A drive that is drained is removed while it has something: ErrNotDrained.
func TestExample5(t *testing.T) {
	s := spread(t, 2, 1, 4, text)
	for n := range 4 {
		if len(s.Pool().Held(n)) == 0 {
			t.Fatalf("drive %d has nothing", n)
		}
	}
	holdOK(t, s, step(api.StepDrain, 2))
	holdRefused(t, s, api.ErrNotDrained, step(api.StepRemove, 2))
	settle(t, s)
	holdOK(t, s, step(api.StepRemove, 2))
	holdSettled(t, s)
	holdGet(t, s, "a", text)
}

// drop loses each of the drives of which the bits of some have one.
func drop(t *testing.T, s *Store, some int) {
	t.Helper()
	for n := range s.Pool().Len() {
		if some>>n&1 == 1 {
			holdOK(t, s, step(api.StepLose, n))
		}
	}
}

// ones is how many bits of some are set.
func ones(some int) int {
	count := 0
	for ; some > 0; some &= some - 1 {
		count++
	}
	return count
}

// 6. m drives are lost, whichever they are: all is read.
func TestExample6(t *testing.T) {
	eachCode(func(k, m int) {
		many := k + m + 1
		for some := range 1 << many {
			if ones(some) != m {
				continue
			}
			s := spread(t, k, m, many, text[:50], "data", text[:8*k])
			drop(t, s, some)
			holdGet(t, s, "a", text[:50])
			holdGet(t, s, "b", "data")
			holdGet(t, s, "c", text[:8*k])
		}
	})
}

// 7. A drive is lost, and drained: its shards are made anew on others.
func TestExample7(t *testing.T) {
	for n := range 5 {
		s := spread(t, 2, 1, 5, text, text[20:50])
		want := reading(s)
		holdOK(t, s, step(api.StepLose, n), step(api.StepDrain, n))
		settle(t, s)
		holdSettled(t, s)
		holdOK(t, s, step(api.StepRemove, n))
		if got := reading(s); !maps.Equal(got, want) {
			t.Errorf("%v, want %v", got, want)
		}
		// As safe as it was: any other one may be lost now.
		holdOK(t, s, step(api.StepLose, (n+2)%5))
		holdGet(t, s, "a", text)
		holdGet(t, s, "b", text[20:50])
	}
}

// 8. A target has no room: the stripe is parked.
func TestExample8(t *testing.T) {
	s := spread(t, 2, 1, 3, text)
	holdOK(t, s, step(api.StepAdd, 1))
	wrong := plan.Wrong(s.Table(), 3)
	if len(wrong) < 2 {
		t.Fatalf("to be moved are %v", wrong)
	}
	if got := rest(t, s, api.ErrFull); got != len(wrong)-1 {
		t.Errorf("%d errors, want %d", got, len(wrong)-1)
	}
	if !slices.Equal(s.Parked(), wrong[1:]) || s.Pool().Free(3) != 0 {
		t.Errorf("parked %v, want %v", s.Parked(), wrong[1:])
	}
	holdSafe(t, s)
	holdGet(t, s, "a", text)
}

// 9. The power goes in a commit: behind the crash it was done, or was not.
func TestExample9(t *testing.T) {
	for fuse := range 3 {
		for bytes := range 200 {
			s := spread(t, 2, 1, 3, "former")
			began(t, s, api.Put, "a", "latter", 0)
			goes(t, s, 0, 6)
			holdOK(t, s, step(api.StepFuse, fuse))
			a := s.Do(step(api.StepRun, 0))
			if (a.E == api.OK) != (fuse == 2) {
				t.Fatalf("%+v", a)
			}
			holdOK(t, s, crash(bytes, 0))
			got := reading(s)["a"]
			// One side that has all of it is enough.
			whole := fuse > 0 || bytes >= len(entry(api.Rec{Kind: api.RecPut, ID: 2, Size: 6, Key: "a", Stripes: []api.Stripe{{ID: 32, Locs: []int{0, 1, 2}}}}))
			if want := map[bool]string{false: "former", true: "latter"}[whole]; got != want {
				t.Fatalf("Fuse(%d), Crash(%d): %q, want %q", fuse, bytes, got, want)
			}
			holdSafe(t, s)
		}
	}
}

// 10. One tape is lost: all is there.
func TestExample10(t *testing.T) {
	for side := range 2 {
		s := spread(t, 2, 1, 4, text, "data")
		holdOK(t, s, step(api.StepDrain, 1))
		settle(t, s)
		want := now(s)
		s.Tape().Lose(side)
		holdOK(t, s, crash(0, 0))
		if got := now(s); !got.is(want) {
			t.Errorf("%+v, want %+v", got, want)
		}
		holdGet(t, s, "a", text)
		put(t, s, "c", "more")
		holdOK(t, s, crash(0, 0))
		holdGet(t, s, "c", "more")
		holdSafe(t, s)
	}
}
