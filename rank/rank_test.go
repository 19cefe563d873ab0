package rank

import (
	"bytes"
	"crypto/sha256"
	"encoding/binary"
	"math"
	"slices"
	"sync"
	"testing"

	"flitting/api"
	"flitting/hash"
)

// follow is the next of numbers that follow a rule, from a seed that goes on: from 0 to below most.
func follow(seed *uint32, most int) int {
	*seed = *seed*1664525 + 1013904223
	return int(*seed>>8) % most
}

// front is the bytes of a weight, told by the library.
func front(stripe, drive int) []byte {
	var both [16]byte
	binary.BigEndian.PutUint64(both[:8], uint64(stripe))
	binary.BigEndian.PutUint64(both[8:], uint64(drive))
	sum := sha256.Sum256(both[:])
	return sum[:8]
}

// ahead tells whether drive a stands ahead of b.
func ahead(stripe, a, b int) bool {
	switch bytes.Compare(front(stripe, a), front(stripe, b)) {
	case 1:
		return true
	case -1:
		return false
	}
	return a < b
}

// ordered is the drives in their order, told another way than the program's: each is let in ahead of the first that it stands ahead of.
func ordered(stripe int, drives []int) []int {
	var list []int
	for _, drive := range drives {
		at := 0
		for at < len(list) && !ahead(stripe, drive, list[at]) {
			at++
		}
		list = slices.Insert(list, at, drive)
	}
	return list
}

// targets is what Targets should answer, told another way.
func targets(stripe int, states []int, n int) ([]int, bool) {
	var drives []int
	for drive := range states {
		if states[drive] == 1 {
			drives = append(drives, drive)
		}
	}
	drives = ordered(stripe, drives)
	for n >= 0 && len(drives) > n {
		drives = drives[:len(drives)-1]
	}
	if len(drives) != n {
		return nil, false
	}
	return drives, true
}

// first is the numbers from 0 to below n.
func first(n int) []int {
	list := make([]int, n)
	for at := range list {
		list[at] = at
	}
	return list
}

// rows calls with each row of that many of the values.
func rows(values []int, size int, call func(row []int)) {
	row := make([]int, size)
	var fill func(at int)
	fill = func(at int) {
		if at == size {
			call(row)
			return
		}
		for _, value := range values {
			row[at] = value
			fill(at + 1)
		}
	}
	fill(0)
}

func holdOrder(t *testing.T, stripe int, drives, want []int) {
	t.Helper()
	if got := Order(stripe, drives); !slices.Equal(got, want) {
		t.Errorf("Order(%d, %v) = %v, want %v", stripe, drives, got, want)
	}
}

func holdTargets(t *testing.T, stripe int, states []int, n int, want []int, wantOK bool) {
	t.Helper()
	got, ok := Targets(stripe, states, n)
	if ok != wantOK || !slices.Equal(got, want) {
		t.Errorf("Targets(%d, %v, %d) = %v, %v, want %v, %v", stripe, states, n, got, ok, want, wantOK)
	}
	if cap(got) != len(got) {
		t.Errorf("Targets(%d, %v, %d) has room for %d behind its %d drives", stripe, states, n, cap(got)-len(got), len(got))
	}
}

// holdModel holds Targets against the model.
func holdModel(t *testing.T, stripe int, states []int, n int) {
	t.Helper()
	want, ok := targets(stripe, states, n)
	holdTargets(t, stripe, states, n, want, ok)
}

func TestOrderKnown(t *testing.T) {
	for _, c := range []struct {
		stripe int
		want   []int
	}{
		{0, []int{11, 5, 9, 8, 6, 3, 1, 7, 2, 4, 10, 0}},
		{1, []int{5, 6, 2, 4, 0, 11, 1, 7, 3, 8, 9, 10}},
		{16, []int{6, 8, 3, 2, 7, 5, 10, 0, 1, 9, 4, 11}},
		{17, []int{3, 9, 4, 0, 1, 7, 6, 8, 2, 10, 5, 11}},
		{31, []int{1, 7, 3, 10, 2, 8, 9, 5, 4, 0, 11, 6}},
		{1 << 29, []int{2, 8, 7, 5, 4, 6, 3, 1, 11, 9, 0, 10}},
		{1 << 30, []int{3, 8, 7, 9, 11, 1, 6, 2, 5, 0, 4, 10}},
		{-1, []int{3, 2, 9, 6, 4, 1, 11, 0, 10, 7, 8, 5}},
		{math.MaxInt64, []int{8, 3, 9, 11, 0, 10, 7, 5, 6, 4, 1, 2}},
		{math.MinInt64, []int{5, 8, 6, 10, 2, 1, 3, 0, 4, 11, 9, 7}},
		{0, []int{math.MinInt64, 12, math.MaxInt64, 1, -1, 1000, 0}},
		{5, []int{12, -1, 1, math.MinInt64, 0, math.MaxInt64, 1000}},
	} {
		back := slices.Clone(c.want)
		slices.Reverse(back)
		rising := slices.Sorted(slices.Values(c.want))
		for _, given := range [][]int{c.want, back, rising} {
			holdOrder(t, c.stripe, given, c.want)
		}
	}
}

func TestOrderShort(t *testing.T) {
	for _, stripe := range []int{0, 1, -1, 16, math.MaxInt64, math.MinInt64} {
		holdOrder(t, stripe, nil, nil)
		holdOrder(t, stripe, []int{}, nil)
		for _, drive := range []int{0, 1, 11, 12, -1, math.MaxInt64, math.MinInt64} {
			holdOrder(t, stripe, []int{drive}, []int{drive})
		}
	}
}

func TestOrderUsual(t *testing.T) {
	for stripe := range 2000 {
		for _, drives := range [][]int{first(12), first(stripe % 12), {11, 3, 7, 5, 0, 2}} {
			holdOrder(t, stripe, drives, ordered(stripe, drives))
		}
	}
}

// Drives come in any order, and each as often as it was there.
func TestOrderOften(t *testing.T) {
	for _, stripe := range []int{0, 1, 16, -7} {
		for size := range 6 {
			rows([]int{0, 3, 11, -1, math.MinInt64}, size, func(row []int) {
				holdOrder(t, stripe, row, ordered(stripe, row))
			})
		}
	}
}

func TestOrderEnds(t *testing.T) {
	ends := []int{0, math.MinInt64, math.MaxInt64, -1}
	for shift := range 63 {
		ends = append(ends, 1<<shift, -1<<shift-1)
	}
	for _, stripe := range ends {
		holdOrder(t, stripe, ends, ordered(stripe, ends))
	}
}

func TestOrderLong(t *testing.T) {
	seed := uint32(1)
	for _, size := range []int{13, 100, 1000, 3000} {
		drives := make([]int, size)
		for at := range drives {
			drives[at] = follow(&seed, size) - size/2
		}
		holdOrder(t, size, drives, ordered(size, drives))
	}
}

// Unlike drives that weigh the same for a stripe: such pairs were searched for.
func TestOrderEqual(t *testing.T) {
	for _, c := range []struct {
		stripe, low, high int
	}{
		{0, -8383753161508898710, 5250323264458033310},
		{0, -6561805753976699103, -5345099477970017262},
		{0, 1749045101448486575, 8420150865242385605},
		{0, -2703211920890283461, 1788941561528913689},
		{16, -1190916997226794893, 3040633852508914580},
		{16, -7012332447844093022, -865311110623825888},
		{16, 3536880369377743548, 6903688101466672009},
	} {
		weight := hash.Weight(c.stripe, c.low)
		if weight != hash.Weight(c.stripe, c.high) || c.low >= c.high {
			t.Fatalf("%d and %d do not weigh the same for stripe %d", c.low, c.high, c.stripe)
		}
		holdOrder(t, c.stripe, []int{c.low, c.high}, []int{c.low, c.high})
		holdOrder(t, c.stripe, []int{c.high, c.low}, []int{c.low, c.high})
		holdOrder(t, c.stripe, []int{c.high, c.low, c.high, c.low}, []int{c.low, c.low, c.high, c.high})
		for size := range 6 {
			rows([]int{c.high, 0, c.low, 11}, size, func(row []int) {
				holdOrder(t, c.stripe, row, ordered(c.stripe, row))
			})
		}
	}
}

// Drives whose weights differ in the lowest bit alone: such pairs were searched for.
func TestOrderNearlyEqual(t *testing.T) {
	for _, c := range []struct {
		stripe, near, far int
	}{
		{16, 6819483909378998618, 4876959129939007310},
		{16, 130984933465352474, 299628086987865078},
		{16, -8696251218117003640, 2025441212592414182},
	} {
		if hash.Weight(c.stripe, c.near) != hash.Weight(c.stripe, c.far)+1 {
			t.Fatalf("%d does not weigh one more than %d for stripe %d", c.near, c.far, c.stripe)
		}
		holdOrder(t, c.stripe, []int{c.near, c.far}, []int{c.near, c.far})
		holdOrder(t, c.stripe, []int{c.far, c.near}, []int{c.near, c.far})
		holdOrder(t, c.stripe, []int{c.far, c.near, c.far}, []int{c.near, c.far, c.far})
	}
}

func TestTargetsKnown(t *testing.T) {
	const gone, in, draining = api.Gone, api.In, api.Draining
	all := slices.Repeat([]int{in}, 12)
	mixed := []int{in, draining, in, in, gone, in, in}
	for _, c := range []struct {
		stripe int
		states []int
		n      int
		want   []int
		ok     bool
	}{
		{0, all, 5, []int{11, 5, 9, 8, 6}, true},
		{16, all, 3, []int{6, 8, 3}, true},
		{16, all, 1, []int{6}, true},
		{16, all, 0, nil, true},
		{16, all, 12, []int{6, 8, 3, 2, 7, 5, 10, 0, 1, 9, 4, 11}, true},
		{16, all, 13, nil, false},
		{16, all, -1, nil, false},
		{16, mixed, 5, []int{6, 3, 2, 5, 0}, true},
		{16, mixed, 2, []int{6, 3}, true},
		{16, mixed, 6, nil, false},
		{17, mixed, 5, []int{3, 0, 6, 2, 5}, true},
	} {
		holdTargets(t, c.stripe, c.states, c.n, c.want, c.ok)
	}
}

// All rows of up to six states, among them such as there are not, and all n around how many there are.
func TestTargetsStates(t *testing.T) {
	stripe := 0
	for size := range 7 {
		rows([]int{api.Gone, api.In, api.Draining, 3, -1}, size, func(row []int) {
			for n := -2; n <= size+2; n++ {
				holdModel(t, stripe, row, n)
			}
			stripe++
		})
	}
}

func TestTargetsUsual(t *testing.T) {
	seed := uint32(2)
	for stripe := range 3000 {
		states := make([]int, follow(&seed, api.MaxDrives+1))
		for at := range states {
			states[at] = []int{api.In, api.In, api.In, api.Draining, api.Gone}[follow(&seed, 5)]
		}
		for n := range api.MaxK + api.MaxM + 1 {
			holdModel(t, stripe, states, n)
		}
	}
}

// In alone counts, whatever the numbers of the others have of it.
func TestTargetsOtherStates(t *testing.T) {
	for _, state := range []int{
		api.Gone, api.Draining, 3, 4, -1, -2, 1 << 8, 1<<8 + 1, 1<<16 + 1, 1<<32 + 1, 1<<63 - 1, math.MinInt64, math.MinInt64 + 1,
	} {
		holdTargets(t, 16, []int{state}, 0, nil, true)
		holdTargets(t, 16, []int{state}, 1, nil, false)
		holdTargets(t, 16, []int{state, api.In, state}, 1, []int{1}, true)
		holdTargets(t, 16, []int{state, api.In, state}, 2, nil, false)
	}
}

func TestTargetsNobodyIn(t *testing.T) {
	for _, states := range [][]int{nil, {}, {api.Gone}, {api.Draining}, {api.Draining, api.Gone, 7}, make([]int, 40)} {
		for _, stripe := range []int{0, 16, -1, math.MaxInt64, math.MinInt64} {
			holdTargets(t, stripe, states, 0, nil, true)
			for _, n := range []int{1, 2, 12, math.MaxInt64, -1, -2, math.MinInt64} {
				holdTargets(t, stripe, states, n, nil, false)
			}
		}
	}
}

func TestTargetsEnds(t *testing.T) {
	for _, stripe := range []int{0, 1, 1 << 30, -1, math.MaxInt64, math.MinInt64} {
		for size := range 20 {
			states := slices.Repeat([]int{api.In}, size)
			for _, n := range []int{0, 1, size - 1, size, size + 1, 1 << 31, 1 << 32, 1<<32 + 1, math.MaxInt64, -1, -1 << 31, -1 << 32, math.MinInt64} {
				holdModel(t, stripe, states, n)
			}
		}
	}
}

// More drives than a pool has are ranked like any.
func TestTargetsLong(t *testing.T) {
	seed := uint32(3)
	states := make([]int, 2000)
	for at := range states {
		states[at] = follow(&seed, 3)
	}
	for _, n := range []int{-1, 0, 1, 7, 500, 1999, 2000, 2001} {
		holdModel(t, 16, states, n)
	}
	holdModel(t, 16, slices.Repeat([]int{api.In}, 1000), 1000)
	holdModel(t, 16, slices.Repeat([]int{api.In}, 1000), 999)
}

// holdKept holds that the whole of room is as it was.
func holdKept(t *testing.T, what string, room, was []int) {
	t.Helper()
	if !slices.Equal(room, was) {
		t.Errorf("%s changed what was handed in, or the room behind it: %v, was %v", what, room, was)
	}
}

// overwrite puts another number at each place of list, spare room included.
func overwrite(list []int) {
	list = list[:cap(list)]
	for at := range list {
		list[at] = -99
	}
}

func TestOrderMemory(t *testing.T) {
	seed := uint32(4)
	for size := range 40 {
		room := make([]int, size+9)
		for at := range room {
			room[at] = follow(&seed, 50) - 25
		}
		was := slices.Clone(room)
		want := ordered(size, was[:size])
		a, b := Order(size, room[:size]), Order(size, room[:size])
		holdKept(t, "Order", room, was)
		overwrite(a)
		holdKept(t, "what is put into Order's answer", room, was)
		overwrite(room)
		if !slices.Equal(b, want) {
			t.Errorf("Order(%d, %v) goes with another answer, or with the drives: %v, want %v", size, was[:size], b, want)
		}
		holdOrder(t, size, was[:size], want)
	}
}

func TestTargetsMemory(t *testing.T) {
	seed := uint32(5)
	for size := range 30 {
		room := make([]int, size+9)
		for at := range room {
			room[at] = follow(&seed, 3)
		}
		was := slices.Clone(room)
		for n := range size + 2 {
			want, _ := targets(size, was[:size], n)
			a, _ := Targets(size, room[:size], n)
			b, _ := Targets(size, room[:size], n)
			holdKept(t, "Targets", room, was)
			overwrite(a)
			holdKept(t, "what is put into Targets' answer", room, was)
			overwrite(room)
			if !slices.Equal(b, want) {
				t.Errorf("Targets(%d, %v, %d) goes with another answer, or with the states: %v, want %v", size, was[:size], n, b, want)
			}
			copy(room, was)
			holdModel(t, size, room[:size], n)
		}
	}
}

// All answers are of what was handed in alone, however many calls go at once, and in which order.
func TestManyAtOnce(t *testing.T) {
	var all sync.WaitGroup
	for from := range 16 {
		all.Go(func() {
			for step := range 200 {
				stripe := (from + step) % 40
				holdOrder(t, stripe, first(12), ordered(stripe, first(12)))
				holdModel(t, stripe, []int{api.In, api.Gone, api.In, api.Draining, api.In, api.In}, step%6)
			}
		})
	}
	all.Wait()
}
