package drive

import (
	"bytes"
	"math"
	"slices"
	"testing"

	"flitting/api"
)

// call is a Write, as it was done.
type call struct {
	slot int
	b    []byte
}

// model is a drive told another way: what lasts, and the list of all loose Writes.
type model struct {
	lasting [][]byte
	loose   []call
	lost    bool
}

// after is what slot has, if of the loose Writes those are done that kept has.
func (m *model) after(slot int, kept func(at int) bool) []byte {
	has := m.lasting[slot]
	for at, c := range m.loose {
		if c.slot == slot && kept(at) {
			has = c.b
		}
	}
	return has
}

func (m *model) settle(kept func(at int) bool) {
	next := make([][]byte, len(m.lasting))
	for slot := range next {
		next[slot] = m.after(slot, kept)
	}
	m.lasting, m.loose = next, nil
}

func all(int) bool  { return true }
func none(int) bool { return false }

func (m *model) write(slot int, b []byte) api.Errno {
	if m.lost {
		return api.ErrLost
	}
	if slot < 0 || slot >= len(m.lasting) || len(b) > 64 {
		return api.ErrArg
	}
	m.loose = append(m.loose, call{slot, slices.Clone(b)})
	return api.OK
}

func (m *model) flush() api.Errno {
	if m.lost {
		return api.ErrLost
	}
	m.settle(all)
	return api.OK
}

func (m *model) crash(keep uint64) {
	m.settle(func(at int) bool { return at <= 63 && keep&(uint64(1)<<at) != 0 })
}

// read is Read, if kept is all, and Lasts, if it is none.
func (m *model) read(slot int, kept func(at int) bool) ([]byte, api.Errno) {
	if m.lost {
		return nil, api.ErrLost
	}
	if slot < 0 || slot >= len(m.lasting) {
		return nil, api.ErrArg
	}
	return m.after(slot, kept), api.OK
}

// hold holds all that d tells against m.
func hold(t *testing.T, d *Drive, m *model) {
	t.Helper()
	slots, loose := len(m.lasting), len(m.loose)
	if m.lost {
		slots, loose = 0, 0
	}
	holdCounts(t, d, slots, loose, m.lost)
	for slot := -1; slot <= len(m.lasting); slot++ {
		want, e := m.read(slot, all)
		holdRead(t, d, slot, want, e)
		want, e = m.read(slot, none)
		holdLasts(t, d, slot, want, e)
	}
}

func holdCounts(t *testing.T, d *Drive, slots, loose int, lost bool) {
	t.Helper()
	if got := d.Cap(); got != slots {
		t.Errorf("Cap() = %d, want %d", got, slots)
	}
	if got := d.Loose(); got != loose {
		t.Errorf("Loose() = %d, want %d", got, loose)
	}
	if got := d.Lost(); got != lost {
		t.Errorf("Lost() = %v, want %v", got, lost)
	}
}

func holdRead(t *testing.T, d *Drive, slot int, want []byte, e api.Errno) {
	t.Helper()
	if got, ge := d.Read(slot); ge != e || !bytes.Equal(got, want) || ge != api.OK && got != nil {
		t.Errorf("Read(%d) = %v, %d, want %v, %d", slot, got, ge, want, e)
	}
}

func holdLasts(t *testing.T, d *Drive, slot int, want []byte, e api.Errno) {
	t.Helper()
	if got, ge := d.Lasts(slot); ge != e || !bytes.Equal(got, want) || ge != api.OK && got != nil {
		t.Errorf("Lasts(%d) = %v, %d, want %v, %d", slot, got, ge, want, e)
	}
}

// holdSlot holds both what slot has and what of it lasts.
func holdSlot(t *testing.T, d *Drive, slot int, has, lasts string) {
	t.Helper()
	holdRead(t, d, slot, []byte(has), api.OK)
	holdLasts(t, d, slot, []byte(lasts), api.OK)
}

func holdWrite(t *testing.T, d *Drive, slot int, b []byte, want api.Errno) {
	t.Helper()
	if got := d.Write(slot, b); got != want {
		t.Errorf("Write(%d, %d bytes) = %d, want %d", slot, len(b), got, want)
	}
}

func holdFlush(t *testing.T, d *Drive, want api.Errno) {
	t.Helper()
	if got := d.Flush(); got != want {
		t.Errorf("Flush() = %d, want %d", got, want)
	}
}

// writes does a Write of each text, which is its slot's number as a letter, and what it gets: "a1" gives 1 to slot 0.
func writes(t *testing.T, d *Drive, texts ...string) {
	t.Helper()
	for _, text := range texts {
		holdWrite(t, d, int(text[0]-'a'), []byte(text[1:]), api.OK)
	}
}

func TestNew(t *testing.T) {
	for _, c := range []struct{ slots, want int }{
		{0, 0}, {1, 1}, {2, 2}, {64, 64}, {127, 127}, {128, 128}, {129, 128}, {1 << 20, 128},
		{math.MaxInt, 128}, {-1, 0}, {-128, 0}, {math.MinInt, 0},
	} {
		d := New(c.slots)
		hold(t, d, &model{lasting: make([][]byte, c.want)})
		for slot := range c.want {
			holdWrite(t, d, slot, []byte{byte(slot)}, api.OK)
		}
		holdWrite(t, d, c.want, nil, api.ErrArg)
		for slot := range c.want {
			holdRead(t, d, slot, []byte{byte(slot)}, api.OK)
		}
		holdCounts(t, d, c.want, c.want, false)
	}
}

// A drive that nobody made by New has no slots.
func TestZero(t *testing.T) {
	hold(t, &Drive{}, &model{})
	d := &Drive{}
	holdWrite(t, d, 0, nil, api.ErrArg)
	holdFlush(t, d, api.OK)
	d.Crash(math.MaxUint64)
	hold(t, d, &model{})
}

func TestNil(t *testing.T) {
	var d *Drive
	for range 2 {
		for _, slot := range []int{math.MinInt, -1, 0, 1, math.MaxInt} {
			holdWrite(t, d, slot, nil, api.ErrArg)
			holdWrite(t, d, slot, make([]byte, 65), api.ErrArg)
			holdRead(t, d, slot, nil, api.ErrArg)
			holdLasts(t, d, slot, nil, api.ErrArg)
		}
		holdFlush(t, d, api.ErrArg)
		holdCounts(t, d, 0, 0, false)
		d.Crash(0)
		d.Crash(math.MaxUint64)
		d.Lose()
	}
}

func TestWriteFlushRead(t *testing.T) {
	d := New(3)
	writes(t, d, "aone", "ctwo")
	holdSlot(t, d, 0, "one", "")
	holdSlot(t, d, 1, "", "")
	holdSlot(t, d, 2, "two", "")
	holdCounts(t, d, 3, 2, false)
	holdFlush(t, d, api.OK)
	holdSlot(t, d, 0, "one", "one")
	holdSlot(t, d, 1, "", "")
	holdSlot(t, d, 2, "two", "two")
	holdCounts(t, d, 3, 0, false)
	writes(t, d, "athree", "afour", "b")
	holdSlot(t, d, 0, "four", "one")
	holdSlot(t, d, 2, "two", "two")
	holdCounts(t, d, 3, 3, false)
	writes(t, d, "a")
	holdSlot(t, d, 0, "", "one")
	holdFlush(t, d, api.OK)
	holdSlot(t, d, 0, "", "")
	holdSlot(t, d, 2, "two", "two")
	holdFlush(t, d, api.OK)
	holdCounts(t, d, 3, 0, false)
}

func TestWriteLengths(t *testing.T) {
	for size := range 200 {
		d := New(1)
		writes(t, d, "awas")
		b := bytes.Repeat([]byte{byte(size)}, size)
		if size > 64 {
			holdWrite(t, d, 0, b, api.ErrArg)
			holdSlot(t, d, 0, "was", "")
			holdCounts(t, d, 1, 1, false)
			continue
		}
		holdWrite(t, d, 0, b, api.OK)
		holdSlot(t, d, 0, string(b), "")
		holdCounts(t, d, 1, 2, false)
		holdFlush(t, d, api.OK)
		holdSlot(t, d, 0, string(b), string(b))
	}
}

// What is refused changes nothing, nor does it take a bit of what a crash keeps.
func TestRefused(t *testing.T) {
	d := New(2)
	refused := func() {
		for _, slot := range []int{-1, 2, 3, 128, math.MinInt, math.MaxInt, 1 << 32} {
			holdWrite(t, d, slot, []byte("x"), api.ErrArg)
			holdRead(t, d, slot, nil, api.ErrArg)
			holdLasts(t, d, slot, nil, api.ErrArg)
		}
		holdWrite(t, d, 0, make([]byte, 65), api.ErrArg)
		holdWrite(t, d, 1, make([]byte, 1<<16), api.ErrArg)
	}
	refused()
	holdCounts(t, d, 2, 0, false)
	writes(t, d, "aone")
	refused()
	writes(t, d, "btwo")
	refused()
	holdCounts(t, d, 2, 2, false)
	holdSlot(t, d, 0, "one", "")
	holdSlot(t, d, 1, "two", "")
	d.Crash(2)
	holdSlot(t, d, 0, "", "")
	holdSlot(t, d, 1, "two", "two")
}

func TestLose(t *testing.T) {
	for _, slots := range []int{0, 1, 3, 128} {
		d, other := New(slots), New(1)
		writes(t, other, "aone")
		for slot := range slots {
			holdWrite(t, d, slot, []byte("flushed"), api.OK)
		}
		holdFlush(t, d, api.OK)
		for slot := range slots {
			holdWrite(t, d, slot, []byte("loose"), api.OK)
		}
		d.Lose()
		for _, then := range []func(){func() {}, d.Lose, func() { d.Crash(0) }, func() { d.Crash(math.MaxUint64) }} {
			then()
			holdCounts(t, d, 0, 0, true)
			holdFlush(t, d, api.ErrLost)
			for _, slot := range []int{math.MinInt, -1, 0, 1, slots - 1, slots, math.MaxInt} {
				// What is lost is told first, whatever else is wrong.
				holdWrite(t, d, slot, []byte("more"), api.ErrLost)
				holdWrite(t, d, slot, make([]byte, 65), api.ErrLost)
				holdRead(t, d, slot, nil, api.ErrLost)
				holdLasts(t, d, slot, nil, api.ErrLost)
			}
		}
		holdSlot(t, other, 0, "one", "")
		holdCounts(t, other, 1, 1, false)
	}
}

func TestCrash(t *testing.T) {
	for _, c := range []struct {
		keep uint64
		want [3]string
	}{
		{0, [3]string{"was", "", ""}},
		{1, [3]string{"one", "", ""}},
		{2, [3]string{"was", "two", ""}},
		{3, [3]string{"one", "two", ""}},
		{4, [3]string{"three", "", ""}},
		{5, [3]string{"three", "", ""}},
		{8, [3]string{"", "", ""}},
		{12, [3]string{"", "", ""}},
		{7, [3]string{"three", "two", ""}},
		{16, [3]string{"was", "five", ""}},
		{18, [3]string{"was", "five", ""}},
		{31, [3]string{"", "five", ""}},
		{32, [3]string{"was", "", ""}},
		{math.MaxUint64, [3]string{"", "five", ""}},
		{math.MaxUint64 - 31, [3]string{"was", "", ""}},
	} {
		d := New(3)
		writes(t, d, "awas")
		holdFlush(t, d, api.OK)
		writes(t, d, "aone", "btwo", "athree", "a", "bfive")
		holdCounts(t, d, 3, 5, false)
		d.Crash(c.keep)
		// A crash more keeps nothing more.
		for range 2 {
			holdCounts(t, d, 3, 0, false)
			for slot, want := range c.want {
				holdSlot(t, d, slot, want, want)
			}
			d.Crash(math.MaxUint64)
		}
	}
}

// Bits are told from 0 on behind each Flush, and each Crash.
func TestCrashBitsAnew(t *testing.T) {
	d := New(2)
	writes(t, d, "aone", "aone", "bone")
	holdFlush(t, d, api.OK)
	writes(t, d, "atwo", "btwo")
	d.Crash(1)
	holdSlot(t, d, 0, "two", "two")
	holdSlot(t, d, 1, "one", "one")
	writes(t, d, "athree", "bthree")
	d.Crash(2)
	holdSlot(t, d, 0, "two", "two")
	holdSlot(t, d, 1, "three", "three")
}

// Each of 64 bits is its own Write's, and what comes behind them does not last in a crash.
func TestCrashEachBit(t *testing.T) {
	const many = 128
	for bit := range 64 {
		d := New(many)
		for slot := range many {
			holdWrite(t, d, slot, []byte{byte(slot), 1}, api.OK)
		}
		d.Crash(1 << bit)
		for slot := range many {
			want := ""
			if slot == bit {
				want = string([]byte{byte(slot), 1})
			}
			holdSlot(t, d, slot, want, want)
		}
	}
}

func TestCrashBehindBits(t *testing.T) {
	d := New(2)
	for at := range 200 {
		if at == 0 || at == 63 {
			writes(t, d, "bearly")
			continue
		}
		holdWrite(t, d, 0, []byte{byte(at)}, api.OK)
		holdSlot(t, d, 0, string([]byte{byte(at)}), "")
		holdCounts(t, d, 2, at+1, false)
	}
	writes(t, d, "blate")
	holdSlot(t, d, 1, "late", "")
	d.Crash(math.MaxUint64)
	holdSlot(t, d, 0, string([]byte{62}), string([]byte{62}))
	holdSlot(t, d, 1, "early", "early")
	holdCounts(t, d, 2, 0, false)
	for range 64 {
		writes(t, d, "afront")
	}
	writes(t, d, "alate", "blater")
	holdSlot(t, d, 0, "late", string([]byte{62}))
	d.Crash(0)
	holdSlot(t, d, 0, string([]byte{62}), string([]byte{62}))
	holdSlot(t, d, 1, "early", "early")
}

// What is behind the bits lasts by a Flush as all else.
func TestFlushBehindBits(t *testing.T) {
	d := New(2)
	for range 100 {
		writes(t, d, "aone")
	}
	writes(t, d, "atwo", "bthree")
	holdCounts(t, d, 2, 102, false)
	holdFlush(t, d, api.OK)
	holdCounts(t, d, 2, 0, false)
	holdSlot(t, d, 0, "two", "two")
	holdSlot(t, d, 1, "three", "three")
	d.Crash(math.MaxUint64)
	holdSlot(t, d, 0, "two", "two")
	holdSlot(t, d, 1, "three", "three")
}

// However much is written, no more is kept than crashes can ask for.
func TestKept(t *testing.T) {
	d := New(api.MaxCap)
	kept := func() int {
		count := 0
		for _, c := range d.cells {
			count += len(c.loose)
		}
		return count
	}
	for at := range 10000 {
		holdWrite(t, d, at%api.MaxCap, []byte("much"), api.OK)
		if got := kept(); got > 64 {
			t.Fatalf("%d loose Writes are kept", got)
		}
	}
	holdFlush(t, d, api.OK)
	if got := kept(); got != 0 {
		t.Errorf("%d loose Writes are kept behind a Flush", got)
	}
	writes(t, d, "aone", "btwo")
	d.Crash(1)
	if got := kept(); got != 0 {
		t.Errorf("%d loose Writes are kept behind a Crash", got)
	}
}

// What is handed in is not changed, spare room included, nor kept.
func TestMemoryIn(t *testing.T) {
	for size := range 65 {
		room := bytes.Repeat([]byte{7}, size+5)
		was := slices.Clone(room)
		d := New(1)
		holdWrite(t, d, 0, room[:size], api.OK)
		d.Read(0)
		d.Lasts(0)
		if !bytes.Equal(room, was) {
			t.Errorf("Write of %d bytes changed them, or the room behind them", size)
		}
		for at := range room {
			room[at] = 9
		}
		holdSlot(t, d, 0, string(was[:size]), "")
		holdFlush(t, d, api.OK)
		holdWrite(t, d, 0, was[:size], api.OK)
		holdSlot(t, d, 0, string(was[:size]), string(was[:size]))
		d.Crash(1)
		for at := range was {
			was[at] = 8
		}
		holdSlot(t, d, 0, string(bytes.Repeat([]byte{7}, size)), string(bytes.Repeat([]byte{7}, size)))
	}
}

// What is answered is new: whoever changes it, spare room included, changes nothing else.
func TestMemoryOut(t *testing.T) {
	d := New(2)
	spoil := func() {
		for slot := range 2 {
			has, _ := d.Read(slot)
			lasts, _ := d.Lasts(slot)
			for _, b := range [][]byte{has[:cap(has)], lasts[:cap(lasts)]} {
				for at := range b {
					b[at] = 'x'
				}
			}
		}
	}
	writes(t, d, "aone", "bone")
	spoil()
	holdSlot(t, d, 0, "one", "")
	holdFlush(t, d, api.OK)
	spoil()
	holdSlot(t, d, 0, "one", "one")
	writes(t, d, "atwo")
	spoil()
	holdSlot(t, d, 0, "two", "one")
	d.Crash(1)
	spoil()
	holdSlot(t, d, 0, "two", "two")
	holdSlot(t, d, 1, "one", "one")
	first, _ := d.Read(0)
	writes(t, d, "athree")
	d.Crash(1)
	if string(first) != "two" {
		t.Errorf("an answer went with a later Write: %q", first)
	}
}

// next goes on with seed, and is a number below n.
func next(seed *uint64, n int) int {
	*seed = *seed*6364136223846793005 + 1442695040888963407
	return int(*seed >> 33 % uint64(n))
}

// keepOf is bits that follow a rule: none, all, or some.
func keepOf(seed *uint64) uint64 {
	switch next(seed, 4) {
	case 0:
		return 0
	case 1:
		return math.MaxUint64
	default:
		return uint64(next(seed, 1<<31))<<33 ^ uint64(next(seed, 1<<31))<<16 ^ uint64(next(seed, 1<<31))
	}
}

// step does the same call on d and on m.
func step(t *testing.T, seed *uint64, d *Drive, m *model, slots int) {
	t.Helper()
	switch kind := next(seed, 400); {
	case kind == 0:
		d.Lose()
		m.lost = true
	case kind < 5:
		holdFlush(t, d, m.flush())
	case kind < 10:
		keep := keepOf(seed)
		d.Crash(keep)
		m.crash(keep)
	default:
		slot := next(seed, slots+2) - 1
		b := bytes.Repeat([]byte{byte(next(seed, 256))}, next(seed, 67))
		holdWrite(t, d, slot, b, m.write(slot, b))
	}
}

// Whatever calls come one behind the other, two drives tell the same as the model.
func TestManyCalls(t *testing.T) {
	for run := range uint64(300) {
		seed := run
		slots := next(&seed, 9)
		if run%10 == 0 {
			slots = api.MaxCap
		}
		again := seed
		d, m := New(slots), &model{lasting: make([][]byte, slots)}
		d2, m2 := New(slots), &model{lasting: make([][]byte, slots)}
		for range 300 {
			step(t, &seed, d, m, slots)
			step(t, &again, d2, m2, slots)
			hold(t, d, m)
			hold(t, d2, m)
			if t.Failed() {
				t.Fatalf("run %d", run)
			}
		}
	}
}
