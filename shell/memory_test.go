package shell

import (
	"slices"
	"testing"

	"flitting/api"
	"flitting/script"
)

// R4: what is handed in is not changed, spare room included, also by a text that adds drives.
func TestMemoryGiven(t *testing.T) {
	drives := []int{9, 9, 9, 9, 1, 2, 3}
	before := slices.Clone(drives)
	for size := range drives {
		for room := size; room <= len(drives); room++ {
			for _, text := range []string{"", step(api.StepAdd, 50), step(api.StepLose, 0) + step(api.StepDrain, 1) + step(api.StepAdd, 7), "none", call(api.Put, "a", "b") + runs(0, 9)} {
				Run(2, 1, drives[:size:room], text)
				if !slices.Equal(drives, before) {
					t.Fatalf("%d drives, room for %d, %q: they are %v now", size, room, text, drives)
				}
			}
		}
	}
}

// R4: what is handed in is not kept: what was told does not go with it.
func TestMemoryNotKept(t *testing.T) {
	drives := even(3, 9)
	text := []byte(call(api.Put, "a", "data") + runs(0, 7) + call(api.Get, "a", "") + runs(0, 2))
	given := string(text)
	told := Run(2, 1, drives, given)
	kept := string([]byte(told))
	drives[0], text[0] = -1, 'x'
	clear(drives)
	if again := Run(2, 1, even(3, 9), given); told != kept || again != kept {
		t.Errorf("%q, then %q, want %q", told, again, kept)
	}
}

// R4: nil and empty lists are the same to everybody.
func TestMemoryEmpty(t *testing.T) {
	for _, drives := range [][]int{nil, {}, {9, 9, 9}} {
		holdText(t, 2, 1, drives[:0], "", "error 10\n")
		holdText(t, 2, -1, drives[:0], "", "error 1\n")
	}
}

// R5: nothing is kept from call to call: each begins with a new store.
func TestMemoryBetween(t *testing.T) {
	text := call(api.Put, "a", "data") + runs(0, 7) + step(api.StepLose, 1) + step(api.StepFuse, 3) + step(api.StepAdd, 9) + step(api.StepAdd, 9)
	want := Run(2, 1, even(4, 9), text)
	for range 4 {
		holdText(t, 2, 1, even(4, 9), text, want)
		holdText(t, 2, 1, even(4, 9), "", "idle\n")
		holdText(t, 2, 1, even(4, 9), call(api.List, "", "")+run(0), "0 0 0 0 x\n0 0 1 1 x\nidle\n")
		holdText(t, 2, 1, even(4, 9), text+"none\n", "error 13 13\n")
		holdText(t, 2, 1, even(4, 9), call(api.Get, "a", ""), "0 0 0 0 x\nbusy\n")
		holdText(t, 2, 1, even(2, 9), text, "error 10\n")
		holdText(t, 0, 1, even(4, 9), text, "error 1\n")
	}
}

// R5: the same texts have the same answers, also when others are done at the same time.
func TestMemoryApart(t *testing.T) {
	t.Parallel()
	ended := make(chan int)
	for worker := range 8 {
		go func() {
			s := seeded(worker)
			var steps []api.Step
			for range 300 {
				steps = append(steps, s.any())
			}
			text := script.Print(steps)
			want := model(2, 1, even(5, 20), text)
			bad := 0
			for range 20 {
				if Run(2, 1, even(5, 20), text) != want || Run(2, 1, even(5, 20), text+"\n"+text) != "error 13 301\n" {
					bad++
				}
			}
			ended <- bad
		}()
	}
	for range 8 {
		if bad := <-ended; bad > 0 {
			t.Errorf("%d answers are others", bad)
		}
	}
}
