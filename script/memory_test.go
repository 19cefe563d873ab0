package script

import (
	"slices"
	"strings"
	"testing"

	"flitting/api"
)

// R4: what is handed in is not changed, spare room included.
func TestMemoryGiven(t *testing.T) {
	data := []byte("data, and more")
	steps := []api.Step{{Kind: 1, A: 1, Key: "a", Data: data[:4:4]}, {Kind: 1, A: 1, Key: "b", Data: data[:0]}, {Kind: 1, A: 1, Key: "c", Data: data[:6]}, {Kind: 2, Key: "spare"}, {Kind: 3, Data: data}}
	before := slices.Clone(steps)
	for size := range steps {
		for room := size; room <= len(steps); room++ {
			given := steps[:size:room]
			text := Print(given)
			if Print(given) != text || text != printed(before[:size]) {
				t.Errorf("twice the same steps: %q, then %q", text, Print(given))
			}
			if !slices.EqualFunc(steps, before, same) || string(data) != "data, and more" {
				t.Fatalf("what was handed in is another: %+v, %q", steps, data)
			}
		}
	}
}

// R4: what is handed in is not kept: what was printed does not go with it.
func TestMemoryNotKept(t *testing.T) {
	data := []byte("data")
	list := []api.Step{{Kind: 1, A: 1, Key: "k", Data: data}, {Kind: 3}}
	text := Print(list)
	data[0], list[1].Kind, list[0].Key = 'D', 4, "K"
	if text != "1 1 0 x6b x64617461\n3 0 0 x x\n" {
		t.Errorf("what was printed is %q now", text)
	}
	hold(t, "1 1 0 x4b x44617461\n4 0 0 x x\n", list...)
}

// overwrite makes all of a list another, and all that its steps have, spare room included.
func overwrite(list []api.Step) {
	list = list[:cap(list)]
	for at := range list {
		data := list[at].Data[:cap(list[at].Data)]
		for place := range data {
			data[place] = '-'
		}
		list[at] = api.Step{Kind: -99, A: -99, Key: "-", Keep: 99}
	}
}

// R4: what is read is new memory: no two lists share any, nor two steps of one list.
func TestMemoryAnswers(t *testing.T) {
	text := strings.Repeat("1 1 7 x6b x64617461\n", 3)
	one := api.Step{Kind: 1, A: 1, Keep: 7, Key: "k", Data: []byte("data")}
	want := []api.Step{one, one, one}
	for at := range want {
		got, _, _ := Parse(text)
		again, _, _ := Parse(text)
		// Room behind a step's Data is no other's.
		_ = append(got[at].Data, "behind it"...)
		overwrite(got[at : at+1 : at+1])
		got[at] = one
		if !slices.EqualFunc(got, want, same) || !slices.EqualFunc(again, want, same) {
			t.Errorf("a step is another when one was changed: %+v, %+v", got, again)
		}
		overwrite(again)
		hold(t, text, want...)
	}
}

// R4: nil and empty lists are the same to everybody.
func TestMemoryEmpty(t *testing.T) {
	for _, data := range [][]byte{nil, {}, []byte("data")[:0]} {
		hold(t, "1 1 0 x x\n", api.Step{Kind: 1, A: 1, Data: data})
	}
	for _, list := range [][]api.Step{nil, {}, {{Kind: 1}}} {
		hold(t, "", list[:0]...)
	}
}

// R5: nothing is kept from call to call: not behind what is no line, either.
func TestMemoryBetween(t *testing.T) {
	for range 3 {
		hold(t, "1 2 3 x34 x35\n", api.Step{Kind: 1, A: 2, Keep: 3, Key: "4", Data: []byte("5")})
		holdNone(t, "1 2 3 x34 x35\n1 2 3 x34 x3", 2)
		hold(t, "")
		holdNone(t, "\n", 1)
		hold(t, "0 0 0 x x\n", api.Step{})
	}
}

// R5: the same calls have the same answers, also when others are made at the same time.
func TestMemoryApart(t *testing.T) {
	t.Parallel()
	ended := make(chan int)
	for worker := range 8 {
		go func() {
			s := seeded(worker)
			list := s.steps(9)
			text := printed(list)
			bad := 0
			for range 300 {
				got, _, e := Parse(text)
				_, number, none := Parse(text + "\n" + text)
				if e != api.OK || !slices.EqualFunc(got, list, same) || Print(list) != text || number != 10 || none != api.ErrText {
					bad++
				}
			}
			ended <- bad
		}()
	}
	for range 8 {
		if bad := <-ended; bad > 0 {
			t.Errorf("%d answers are others", bad)
		}
	}
}
