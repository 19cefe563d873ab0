package pool

import (
	"maps"
	"math"
	"math/big"
	"slices"
	"testing"

	"flitting/api"
)

// shardOf is a shard as the model has it; nil: no shard.
type shardOf struct {
	stripe, pos int
	b           string
}

// change is a loose Write.
type change struct {
	at int
	to *shardOf
}

// modelDrive is a drive told by shards: what lasts, and the list of all loose Writes.
type modelDrive struct {
	lasting []*shardOf
	loose   []change
	lost    bool
}

// now is what the slots have, if of the loose Writes those are done that kept has.
func (d *modelDrive) now(kept func(at int) bool) []*shardOf {
	slots := slices.Clone(d.lasting)
	for at, c := range d.loose {
		if kept(at) {
			slots[c.at] = c.to
		}
	}
	return slots
}

func all(int) bool  { return true }
func none(int) bool { return false }

func (d *modelDrive) settle(kept func(at int) bool) {
	d.lasting, d.loose = d.now(kept), nil
}

// slotsOf is by each place its slots, rising; of no shard by nil.
func slotsOf(list []*shardOf) (map[[2]int][]int, []int) {
	places, free := map[[2]int][]int{}, []int{}
	for at, s := range list {
		if s == nil {
			free = append(free, at)
		} else {
			places[[2]int{s.stripe, s.pos}] = append(places[[2]int{s.stripe, s.pos}], at)
		}
	}
	return places, free
}

// model is a pool told another way. done counts what was done since a Fuse of so many, and refused the ErrDowns since a Crash; without a fuse, writes is below 0.
type model struct {
	drives                []*modelDrive
	writes, done, refused int
}

func (m *model) drive(n int) (*modelDrive, api.Errno) {
	if n < 0 || n >= len(m.drives) {
		return nil, api.ErrArg
	}
	if m.drives[n].lost {
		return nil, api.ErrLost
	}
	return m.drives[n], api.OK
}

// act does what takes power.
func (m *model) act(do func()) api.Errno {
	if m.refused > 0 || m.writes >= 0 && m.done >= m.writes {
		m.refused++
		return api.ErrDown
	}
	m.done++
	do()
	return api.OK
}

func (m *model) store(n int, s shardOf) api.Errno {
	d, e := m.drive(n)
	if s.stripe < 0 || s.stripe > 1<<30 || s.pos < 0 || s.pos > 255 || len(s.b) > 50 {
		e = api.ErrArg
	}
	if e != api.OK {
		return e
	}
	places, free := slotsOf(d.now(all))
	into := append(places[[2]int{s.stripe, s.pos}], free...)
	if len(into) == 0 {
		return api.ErrFull
	}
	return m.act(func() { d.loose = append(d.loose, change{into[0], &s}) })
}

func (m *model) erase(n, stripe, pos int) api.Errno {
	d, e := m.drive(n)
	if e != api.OK {
		return e
	}
	places, _ := slotsOf(d.now(all))
	at := places[[2]int{stripe, pos}]
	if len(at) == 0 {
		return api.ErrNone
	}
	return m.act(func() { d.loose = append(d.loose, change{at[0], nil}) })
}

func (m *model) flush(n int) api.Errno {
	d, e := m.drive(n)
	if e != api.OK {
		return e
	}
	return m.act(func() { d.settle(all) })
}

func (m *model) crash(keep uint64) {
	for n, d := range m.drives {
		// Bit b of what is turned to the right by 7 n is bit b + 7 n, of 64 that go round.
		whole := new(big.Int).SetUint64(keep)
		d.settle(func(at int) bool { return at < 64 && whole.Bit((at+7*n)%64) == 1 })
	}
	m.writes, m.done, m.refused = -1, 0, 0
}

// asked are the places that calls are about, and some that nobody has.
func asked() [][2]int {
	list := [][2]int{{-1, 0}, {0, -1}, {0, 256}, {api.MaxID + 1, 0}, {api.MaxID, 255}, {1 << 32, 0}}
	for stripe := range 3 {
		for pos := range 3 {
			list = append(list, [2]int{stripe, pos})
		}
	}
	return list
}

// hold holds all that p tells against m.
func hold(t *testing.T, p *Pool, m *model) {
	t.Helper()
	holdCount(t, "Len()", p.Len(), len(m.drives))
	for n := -1; n <= len(m.drives); n++ {
		d, e := m.drive(n)
		if e != api.OK {
			d = &modelDrive{}
		}
		now := d.now(all)
		places, free := slotsOf(now)
		lasting, _ := slotsOf(d.lasting)
		var held [][2]int
		for _, s := range now {
			if s != nil {
				held = append(held, [2]int{s.stripe, s.pos})
			}
		}
		holdHeld(t, p, n, len(free), held...)
		for _, want := range slices.Concat(asked(), slices.Collect(maps.Keys(places))) {
			holdPlace(t, p, n, want, now, places[want], len(lasting[want]) > 0, e)
		}
	}
}

func holdPlace(t *testing.T, p *Pool, n int, want [2]int, now []*shardOf, slots []int, lasts bool, e api.Errno) {
	t.Helper()
	holdLasts(t, p, n, want[0], want[1], lasts)
	if len(slots) > 0 {
		holdLoad(t, p, n, want[0], want[1], now[slots[0]].b, api.OK)
	} else if e != api.OK {
		holdLoad(t, p, n, want[0], want[1], "", e)
	} else {
		holdLoad(t, p, n, want[0], want[1], "", api.ErrNone)
	}
}

// next goes on with seed, and is a number below n.
func next(seed *uint64, n int) int {
	*seed = *seed*6364136223846793005 + 1442695040888963407
	return int(*seed >> 33 % uint64(n))
}

// keepOf is bits that follow a rule: none, all, or some.
func keepOf(seed *uint64) uint64 {
	switch next(seed, 4) {
	case 0:
		return 0
	case 1:
		return math.MaxUint64
	default:
		return uint64(next(seed, 1<<31))<<33 ^ uint64(next(seed, 1<<31))<<16 ^ uint64(next(seed, 1<<31))
	}
}

func stepAdd(t *testing.T, seed *uint64, p *Pool, m *model) {
	t.Helper()
	slots := next(seed, 6) - 1
	want, e := len(m.drives), api.OK
	if want == 12 {
		want, e = 0, api.ErrFull
	} else {
		m.drives = append(m.drives, &modelDrive{lasting: make([]*shardOf, max(slots, 0))})
	}
	if got, ge := p.Add(slots); got != want || ge != e {
		t.Errorf("Add(%d) = %d, %d, want %d, %d", slots, got, ge, want, e)
	}
}

// stepDirect writes to a slot without the pool: a shard, or what is none.
func stepDirect(t *testing.T, seed *uint64, p *Pool, m *model) {
	t.Helper()
	n := next(seed, len(m.drives)+1)
	d, e := m.drive(n)
	if e != api.OK || len(d.lasting) == 0 {
		return
	}
	s := &shardOf{next(seed, 3), next(seed, 3), "direct"}
	at, b := next(seed, len(d.lasting)), framed(uint32(s.stripe), byte(s.pos), []byte(s.b))
	if next(seed, 2) == 0 {
		b[next(seed, len(b))] ^= 1 << next(seed, 8)
		s = nil
	}
	put(t, p, n, at, b)
	d.loose = append(d.loose, change{at, s})
}

// step does the same call on p and on m.
func step(t *testing.T, seed *uint64, p *Pool, m *model) {
	t.Helper()
	n := next(seed, len(m.drives)+2) - 1
	place := asked()[next(seed, len(asked()))]
	switch kind := next(seed, 300); {
	case kind == 0 && p.Drive(n) != nil:
		p.Drive(n).Lose()
		m.drives[n].lost = true
	case kind < 8:
		stepAdd(t, seed, p, m)
	case kind < 16:
		keep := keepOf(seed)
		p.Crash(keep)
		m.crash(keep)
	case kind < 24:
		writes := next(seed, 30) - 2
		p.Fuse(writes)
		m.writes, m.done = max(writes, 0), 0
	case kind < 40:
		holdFlush(t, p, n, m.flush(n))
	case kind < 70:
		stepDirect(t, seed, p, m)
	case kind < 140:
		holdErase(t, p, n, place[0], place[1], m.erase(n, place[0], place[1]))
	default:
		b := string(slices.Repeat([]byte{byte(next(seed, 256))}, next(seed, 53)))
		holdStore(t, p, n, place[0], place[1], b, m.store(n, shardOf{place[0], place[1], b}))
	}
}

// Whatever calls come one behind the other, two pools tell the same as the model.
func TestManyCalls(t *testing.T) {
	for run := range uint64(40) {
		seed, again := run, run
		p, m := New(), &model{writes: -1}
		p2, m2 := New(), &model{writes: -1}
		for range 300 {
			step(t, &seed, p, m)
			step(t, &again, p2, m2)
			hold(t, p, m)
			hold(t, p2, m)
			if t.Failed() {
				t.Fatalf("run %d", run)
			}
		}
	}
}
