package move

import (
	"math"
	"math/big"
	"slices"
	"strconv"
	"testing"

	"flitting/api"
	"flitting/plan"
	"flitting/pool"
	"flitting/rec"
	"flitting/rs"
	"flitting/shard"
	"flitting/slot"
	"flitting/table"
)

// text is data for four parts.
const text = "thirty-two bytes are four shards"

// drives is a pool of so many drives, of so many slots each.
func drives(t *testing.T, many, slots int) *pool.Pool {
	t.Helper()
	p := pool.New()
	for range many {
		if _, e := p.Add(slots); e != api.OK {
			t.Fatalf("Add(%d) = %d", slots, e)
		}
	}
	return p
}

func store(t *testing.T, p *pool.Pool, n, stripe, pos int, b []byte) {
	t.Helper()
	if e := p.Store(n, stripe, pos, b); e != api.OK {
		t.Fatalf("Store(%d, %d, %d, %v) = %d", n, stripe, pos, b, e)
	}
}

func flush(t *testing.T, p *pool.Pool, n int) {
	t.Helper()
	if e := p.Flush(n); e != api.OK {
		t.Fatalf("Flush(%d) = %d", n, e)
	}
}

func erase(t *testing.T, p *pool.Pool, n, stripe, pos int) {
	t.Helper()
	if e := p.Erase(n, stripe, pos); e != api.OK {
		t.Fatalf("Erase(%d, %d, %d) = %d", n, stripe, pos, e)
	}
}

// direct writes to a slot without the pool.
func direct(t *testing.T, p *pool.Pool, n, at int, b []byte) {
	t.Helper()
	if e := p.Drive(n).Write(at, b); e != api.OK {
		t.Fatalf("a drive's Write(%d) = %d", at, e)
	}
}

// encoded is the shards of data.
func encoded(t *testing.T, k, m int, data string) [][]byte {
	t.Helper()
	shards, e := rs.Encode(k, m, []byte(data))
	if e != api.OK {
		t.Fatalf("Encode(%d, %d, %q) = %d", k, m, data, e)
	}
	return shards
}

// lay stores the shards of data at the places of a stripe, to last.
func lay(t *testing.T, p *pool.Pool, k, m int, data string, s api.Stripe) [][]byte {
	t.Helper()
	shards := encoded(t, k, m, data[:k*api.ShardLen])
	for pos, b := range shards {
		store(t, p, s.Locs[pos], s.ID, pos, b)
		flush(t, p, s.Locs[pos])
	}
	return shards
}

func stripeAt(id int, locs ...int) api.Stripe {
	return api.Stripe{ID: id, Epoch: 1, Locs: locs}
}

// began is a move that there is.
func began(t *testing.T, k, m int, s api.Stripe, target ...int) *Move {
	t.Helper()
	x := New(k, m, s, target)
	if x == nil {
		t.Fatalf("New(%d, %d, %v, %v): none", k, m, s, target)
	}
	return x
}

func holdNext(t *testing.T, x *Move, p *pool.Pool, ready bool, e api.Errno) {
	t.Helper()
	if r, ge := x.Next(p); r != ready || ge != e {
		t.Fatalf("Next = %v, %d, want %v, %d", r, ge, ready, e)
	}
}

// holdDone holds that the next ones are done, so many, and nothing is ready.
func holdDone(t *testing.T, x *Move, p *pool.Pool, many int) {
	t.Helper()
	for range many {
		holdNext(t, x, p, false, api.OK)
	}
}

// holdStays holds that Next answers an error, whenever it is asked, and changes nothing.
func holdStays(t *testing.T, x *Move, p *pool.Pool, e api.Errno) {
	t.Helper()
	was := seen(p)
	for range 3 {
		holdNext(t, x, p, false, e)
	}
	holdSeen(t, p, was)
}

// holdReady holds that Next has nothing to do, whenever it is asked.
func holdReady(t *testing.T, x *Move, p *pool.Pool) {
	t.Helper()
	was := seen(p)
	for range 3 {
		holdNext(t, x, p, true, api.OK)
	}
	holdSeen(t, p, was)
}

func holdHanded(t *testing.T, x *Move, s api.Stripe, target []int) {
	t.Helper()
	if got := x.Stripe(); got.ID != s.ID || got.Epoch != s.Epoch || !slices.Equal(got.Locs, s.Locs) {
		t.Errorf("Stripe() = %v, want %v", got, s)
	}
	if got := x.Target(); !slices.Equal(got, target) {
		t.Errorf("Target() = %v, want %v", got, target)
	}
}

// seen is all that the drives have, what of it lasts, how much is loose, and which are lost.
func seen(p *pool.Pool) []string {
	var list []string
	for n := range p.Len() {
		d := p.Drive(n)
		line := strconv.FormatBool(d.Lost()) + " " + strconv.Itoa(d.Loose())
		for at := range d.Cap() {
			has, _ := d.Read(at)
			lasts, _ := d.Lasts(at)
			line += " " + strconv.Quote(string(has)) + " " + strconv.Quote(string(lasts))
		}
		list = append(list, line)
	}
	return list
}

func holdSeen(t *testing.T, p *pool.Pool, want []string) {
	t.Helper()
	if got := seen(p); !slices.Equal(got, want) {
		t.Fatalf("the drives have\n%q, want\n%q", got, want)
	}
}

// holdHeld holds which shards drive n has, and how many Writes are loose.
func holdHeld(t *testing.T, p *pool.Pool, n, loose int, want ...[2]int) {
	t.Helper()
	if got := p.Held(n); !slices.Equal(got, want) || p.Drive(n).Loose() != loose {
		t.Errorf("drive %d has %v, %d loose, want %v, %d", n, got, p.Drive(n).Loose(), want, loose)
	}
}

// far are numbers at the ends of int, and of what stands in fewer bits.
func far() []int {
	return []int{math.MinInt64, -1 << 32, -1, 12, 1 << 8, 1 << 30, 1 << 32, math.MaxInt64}
}

// The document's example.
func TestExample(t *testing.T) {
	p := drives(t, 3, 1)
	s := stripeAt(16, 2, 0, 1)
	x := began(t, 2, 1, s, 2, 0, 1)
	holdReady(t, x, p)
	holdHanded(t, x, s, []int{2, 0, 1})
}

// Of three places two differ: each thing that is done, one by one.
func TestOneByOne(t *testing.T) {
	p := drives(t, 5, 2)
	s := stripeAt(16, 2, 0, 1)
	shards := lay(t, p, 2, 1, text, s)
	x := began(t, 2, 1, s, 4, 0, 3)
	holdHeld(t, p, 4, 0)
	holdNext(t, x, p, false, api.OK)
	holdHeld(t, p, 4, 1, [2]int{16, 0})
	holdHeld(t, p, 3, 0)
	holdNext(t, x, p, false, api.OK)
	holdHeld(t, p, 3, 1, [2]int{16, 2})
	holdHeld(t, p, 4, 1, [2]int{16, 0})
	holdNext(t, x, p, false, api.OK)
	holdHeld(t, p, 4, 0, [2]int{16, 0})
	holdHeld(t, p, 3, 1, [2]int{16, 2})
	holdNext(t, x, p, false, api.OK)
	holdHeld(t, p, 3, 0, [2]int{16, 2})
	was := seen(p)
	holdDone(t, x, p, 2)
	holdSeen(t, p, was)
	holdReady(t, x, p)
	// Where they were, they are yet.
	for pos, b := range shards {
		for _, n := range []int{s.Locs[pos], []int{4, 0, 3}[pos]} {
			if got, e := p.Load(n, 16, pos); e != api.OK || !slices.Equal(got, b) || !p.Lasts(n, 16, pos) {
				t.Errorf("drive %d, pos %d: %q, %d, want %q, to last", n, pos, got, e, b)
			}
		}
	}
}

// All codes, and all choices of places that differ: three things for each, and the stripe is at its target.
func TestWhichDiffer(t *testing.T) {
	for k := 1; k <= api.MaxK; k++ {
		for m := range api.MaxM + 1 {
			for set := range 1 << (k + m) {
				holdDiffer(t, k, m, set)
			}
		}
	}
}

// holdDiffer holds a move of which just the places of set differ: it goes to drives behind those that it has.
func holdDiffer(t *testing.T, k, m, set int) {
	t.Helper()
	p := drives(t, 12, 2)
	s := stripeAt(api.MaxID)
	var target, differ []int
	for pos := range k + m {
		s.Locs = append(s.Locs, pos)
		target = append(target, pos)
		if set>>pos&1 == 1 {
			target[pos] = 11 - len(differ)%5
			differ = append(differ, pos)
		}
	}
	shards := lay(t, p, k, m, text, s)
	was := seen(p)
	x := began(t, k, m, s, target...)
	for _, pos := range differ {
		if _, e := p.Load(target[pos], s.ID, pos); e != api.ErrNone {
			t.Errorf("pos %d is there ahead of its turn: %d", pos, e)
		}
		holdNext(t, x, p, false, api.OK)
		if b, _ := p.Load(target[pos], s.ID, pos); !slices.Equal(b, shards[pos]) {
			t.Errorf("pos %d: %q, want %q", pos, b, shards[pos])
		}
	}
	for _, pos := range differ {
		holdNext(t, x, p, false, api.OK)
		if loose := p.Drive(target[pos]).Loose(); loose != 0 || !p.Lasts(target[pos], s.ID, pos) {
			t.Errorf("pos %d is loose", pos)
		}
	}
	holdDone(t, x, p, len(differ))
	holdReady(t, x, p)
	for n := range 7 {
		if got := seen(p)[n]; got != was[n] {
			t.Errorf("drive %d is another: %s, was %s", n, got, was[n])
		}
	}
	if to := (api.Stripe{ID: s.ID, Locs: target}); !shard.Whole(p, to) {
		t.Errorf("%v is not whole", to)
	}
}

// The same drives in another order: each has then two shards.
func TestOtherOrder(t *testing.T) {
	p := drives(t, 3, 2)
	s := stripeAt(5, 0, 1, 2)
	lay(t, p, 1, 2, text, s)
	x := began(t, 1, 2, s, 1, 2, 0)
	holdDone(t, x, p, 9)
	holdReady(t, x, p)
	for n := range 3 {
		holdHeld(t, p, n, 0, [2]int{5, n}, [2]int{5, (n + 2) % 3})
	}
}

// One target for all places: it is written for each, flushed for each, and each is looked at.
func TestOneTarget(t *testing.T) {
	p := drives(t, 4, 3)
	s := stripeAt(5, 0, 1, 2)
	lay(t, p, 2, 1, text, s)
	x := began(t, 2, 1, s, 3, 3, 3)
	for loose := 1; loose <= 3; loose++ {
		holdNext(t, x, p, false, api.OK)
		if got := p.Drive(3).Loose(); got != loose {
			t.Errorf("%d are loose, want %d", got, loose)
		}
	}
	for range 3 {
		store(t, p, 3, 5, 0, []byte(text[:8]))
		holdNext(t, x, p, false, api.OK)
		holdHeld(t, p, 3, 0, [2]int{5, 0}, [2]int{5, 1}, [2]int{5, 2})
	}
	holdDone(t, x, p, 3)
	holdReady(t, x, p)
}

// All places at one drive, and away from it.
func TestFromOneDrive(t *testing.T) {
	p := drives(t, 3, 3)
	s := stripeAt(0, 1, 1, 1)
	lay(t, p, 2, 1, text, s)
	x := began(t, 2, 1, s, 0, 1, 2)
	holdDone(t, x, p, 6)
	holdReady(t, x, p)
	holdHeld(t, p, 0, 0, [2]int{0, 0})
	holdHeld(t, p, 2, 0, [2]int{0, 2})
}

// What is lost is made anew of any k shards that are not.
func TestMadeAnew(t *testing.T) {
	for k := 1; k <= api.MaxK; k++ {
		for m := range api.MaxM + 1 {
			for set := range 1 << (k + m) {
				holdAnew(t, k, m, set)
			}
		}
	}
}

// holdAnew holds a move, to drives that are not lost, of a stripe whose shards of set alone are there.
func holdAnew(t *testing.T, k, m, set int) {
	t.Helper()
	p := drives(t, 12, 2)
	s := stripeAt(7, 0, 1, 2, 3, 4, 5, 6)
	s.Locs = s.Locs[:k+m]
	shards := lay(t, p, k, m, text, s)
	there := 0
	var target []int
	for pos := range k + m {
		if set>>pos&1 == 0 {
			p.Drive(pos).Lose()
		} else {
			there++
		}
		target = append(target, 7+pos%5)
	}
	x := began(t, k, m, s, target...)
	if there < k {
		holdStays(t, x, p, api.ErrLost)
		return
	}
	holdDone(t, x, p, 3*(k+m))
	holdReady(t, x, p)
	for pos, want := range shards {
		if b, e := p.Load(target[pos], 7, pos); e != api.OK || !slices.Equal(b, want) || !p.Lasts(target[pos], 7, pos) {
			t.Errorf("%d and %d, of %b there: pos %d is %q, %d, want %q, to last", k, m, set, pos, b, e, want)
		}
	}
}

// What stands at a place's own drive does not count where k others ahead of it are there: the shard is made of those.
func TestOneNotLoad(t *testing.T) {
	p := drives(t, 4, 1)
	s := stripeAt(9, 0, 1, 2)
	shards := lay(t, p, 2, 1, text, s)
	store(t, p, 2, 9, 2, []byte("another!"))
	x := began(t, 2, 1, s, 0, 1, 3)
	holdDone(t, x, p, 3)
	holdReady(t, x, p)
	if b, _ := p.Load(3, 9, 2); !slices.Equal(b, shards[2]) {
		t.Errorf("%q, want %q", b, shards[2])
	}
}

// A target that has that shard already has it in the same slot.
func TestThereAlready(t *testing.T) {
	p := drives(t, 2, 2)
	s := stripeAt(3, 0)
	lay(t, p, 1, 0, text, s)
	store(t, p, 1, 4, 0, []byte("fills up"))
	store(t, p, 1, 3, 0, []byte("old one"))
	x := began(t, 1, 0, s, 1)
	holdDone(t, x, p, 3)
	holdReady(t, x, p)
	holdHeld(t, p, 1, 0, [2]int{4, 0}, [2]int{3, 0})
	if b, _ := p.Load(1, 3, 0); string(b) != text[:8] {
		t.Errorf("%q", b)
	}
}

// One's errors, ahead of Store's: too few shards, till there are more again.
func TestStoreTooFewShards(t *testing.T) {
	for _, to := range []int{2, 3, 4, -1} {
		p := drives(t, 4, 1)
		s := stripeAt(3, 0, 1)
		lay(t, p, 2, 0, text, s)
		store(t, p, 2, 1, 1, []byte("no room"))
		flush(t, p, 2)
		p.Drive(3).Lose()
		x := began(t, 2, 0, s, to, 1)
		erase(t, p, 0, 3, 0)
		p.Fuse(0)
		holdStays(t, x, p, api.ErrLost)
		p.Crash(0)
		// What is loose was not: the shard is there again.
		holdStays(t, x, p, map[int]api.Errno{2: api.ErrFull, 3: api.ErrLost, 4: api.ErrArg, -1: api.ErrArg}[to])
	}
}

// Where there is no code One has an error, ahead of Store's, whatever target there is; where no place differs there is nothing to do.
func TestNoCode(t *testing.T) {
	p := drives(t, 4, 1)
	p.Drive(2).Lose()
	store(t, p, 3, 9, 9, []byte("no room"))
	for k := -3; k <= 9; k++ {
		for m := -3; m <= 9; m++ {
			if k+m < 0 || 1 <= k && k <= api.MaxK && 0 <= m && m <= api.MaxM {
				continue
			}
			s := stripeAt(3, make([]int, k+m)...)
			same := began(t, k, m, s, s.Locs...)
			holdReady(t, same, p)
			holdHanded(t, same, s, s.Locs)
			for pos := range k + m {
				for _, n := range []int{1, 2, 3, 4, -1} {
					target := make([]int, k+m)
					target[pos] = n
					x := began(t, k, m, s, target...)
					holdStays(t, x, p, api.ErrArg)
					holdHanded(t, x, s, target)
				}
			}
		}
	}
}

// Store's ErrArg: a drive that there is not, and a stripe that there can not be.
func TestStoreArg(t *testing.T) {
	p := drives(t, 3, 2)
	s := stripeAt(3, 0)
	lay(t, p, 1, 0, text, s)
	for _, n := range append(far(), 3) {
		x := began(t, 1, 0, s, n)
		holdStays(t, x, p, api.ErrArg)
		holdHanded(t, x, s, []int{n})
	}
	for _, id := range []int{api.MaxID + 1, math.MaxUint32} {
		direct(t, p, 1, 0, slot.Frame(id, 0, []byte("a shard!")))
		holdStays(t, began(t, 1, 0, stripeAt(id, 1), 2), p, api.ErrArg)
	}
	for _, id := range []int{-1, math.MinInt, math.MaxInt, 3 + 1<<32, 3 - 1<<32} {
		holdStays(t, began(t, 1, 0, stripeAt(id, 0), 2), p, api.ErrLost)
	}
	// Of a drive that there is then it is done.
	x := began(t, 1, 0, s, 3)
	holdStays(t, x, p, api.ErrArg)
	p.Add(1)
	holdDone(t, x, p, 3)
	holdReady(t, x, p)
}

// Store's ErrLost, of the second place: the first one is not done once more.
func TestStoreLost(t *testing.T) {
	p := drives(t, 4, 1)
	s := stripeAt(3, 0, 1)
	lay(t, p, 1, 1, text, s)
	x := began(t, 1, 1, s, 2, 3)
	p.Drive(3).Lose()
	holdNext(t, x, p, false, api.OK)
	holdStays(t, x, p, api.ErrLost)
	holdHeld(t, p, 2, 1, [2]int{3, 0})
}

// Store's ErrFull, till there is room.
func TestStoreFull(t *testing.T) {
	p := drives(t, 4, 1)
	s := stripeAt(3, 0, 1)
	lay(t, p, 1, 1, text, s)
	store(t, p, 3, 9, 9, []byte("in the way"))
	flush(t, p, 3)
	x := began(t, 1, 1, s, 2, 3)
	holdNext(t, x, p, false, api.OK)
	holdStays(t, x, p, api.ErrFull)
	erase(t, p, 3, 9, 9)
	holdNext(t, x, p, false, api.OK)
	holdHeld(t, p, 3, 2, [2]int{3, 1})
	holdDone(t, x, p, 4)
	holdReady(t, x, p)
	none := pool.New()
	none.Add(1)
	none.Add(0)
	lay(t, none, 1, 0, text, stripeAt(3, 0))
	holdStays(t, began(t, 1, 0, stripeAt(3, 0), 1), none, api.ErrFull)
}

// Flush's ErrLost: of the first place, and of the second.
func TestFlushLost(t *testing.T) {
	for at := range 2 {
		p := drives(t, 4, 1)
		s := stripeAt(3, 0, 1)
		lay(t, p, 1, 1, text, s)
		x := began(t, 1, 1, s, 2, 3)
		holdDone(t, x, p, 2)
		p.Drive(2 + at).Lose()
		holdDone(t, x, p, at)
		holdStays(t, x, p, api.ErrLost)
		if loose := p.Drive(3 - at).Loose(); loose != 1-at {
			t.Errorf("%d are loose", loose)
		}
	}
}

// A Flush asks nothing but its drive: neither the stripe's shards, nor what is there.
func TestFlushAlone(t *testing.T) {
	p := drives(t, 4, 1)
	s := stripeAt(3, 0, 1)
	lay(t, p, 1, 1, text, s)
	x := began(t, 1, 1, s, 2, 3)
	holdDone(t, x, p, 2)
	p.Drive(0).Lose()
	p.Drive(1).Lose()
	erase(t, p, 3, 3, 1)
	holdDone(t, x, p, 2)
	holdHeld(t, p, 3, 0)
	// The first one's shard is there, but can not be held against any.
	holdStays(t, x, p, api.ErrLost)
}

// atCheck is a move of two places that differ, in which all is done but the looks.
func atCheck(t *testing.T) (*Move, *pool.Pool, [][]byte) {
	t.Helper()
	p := drives(t, 4, 2)
	s := stripeAt(3, 0, 1)
	shards := lay(t, p, 1, 1, text, s)
	x := began(t, 1, 1, s, 2, 3)
	holdDone(t, x, p, 4)
	return x, p, shards
}

// Load's errors at the targets, ahead of One's; the second place is looked at in its turn alone.
func TestCheckLoad(t *testing.T) {
	for at := range 2 {
		for _, too := range []bool{false, true} {
			x, p, shards := atCheck(t)
			erase(t, p, 2+at, 3, at)
			holdDone(t, x, p, at)
			if too {
				erase(t, p, 0, 3, 0)
				erase(t, p, 1, 3, 1)
			}
			holdStays(t, x, p, api.ErrNone)
			store(t, p, 2+at, 3, at, shards[at])
			if too {
				holdStays(t, x, p, api.ErrLost)
				store(t, p, 0, 3, 0, shards[0])
			}
			holdDone(t, x, p, 2-at)
			holdReady(t, x, p)
		}
	}
	for at := range 2 {
		x, p, _ := atCheck(t)
		p.Drive(2 + at).Lose()
		holdDone(t, x, p, at)
		holdStays(t, x, p, api.ErrLost)
	}
}

// One's errors, ahead of ErrCorrupt.
func TestCheckOne(t *testing.T) {
	for at := range 2 {
		x, p, shards := atCheck(t)
		holdDone(t, x, p, at)
		store(t, p, 2+at, 3, at, []byte("another!"))
		holdStays(t, x, p, api.ErrCorrupt)
		erase(t, p, 0, 3, 0)
		erase(t, p, 1, 3, 1)
		holdStays(t, x, p, api.ErrLost)
		store(t, p, 1, 3, 1, shards[1])
		holdStays(t, x, p, api.ErrCorrupt)
		store(t, p, 2+at, 3, at, shards[at])
		holdDone(t, x, p, 2-at)
		holdReady(t, x, p)
	}
}

// Whatever else is at the target is ErrCorrupt, be it a bit, or how long it is.
func TestCheckCorrupt(t *testing.T) {
	for at := range 2 {
		x, p, shards := atCheck(t)
		holdDone(t, x, p, at)
		b := shards[at]
		other := [][]byte{nil, {0}, b[:7], slices.Concat(b, []byte{0}), slices.Concat(b, b), make([]byte, 8), make([]byte, 50)}
		for n := range 64 {
			one := slices.Clone(b)
			one[n/8] ^= 1 << (n % 8)
			other = append(other, one)
		}
		for _, one := range other {
			store(t, p, 2+at, 3, at, one)
			holdStays(t, x, p, api.ErrCorrupt)
		}
		store(t, p, 2+at, 3, at, b)
		holdDone(t, x, p, 2-at)
		holdReady(t, x, p)
	}
}

// What is at the target is held against what the stripe has then, not against what it had.
func TestCheckNow(t *testing.T) {
	x, p, _ := atCheck(t)
	now := encoded(t, 1, 1, "other...")
	store(t, p, 0, 3, 0, now[0])
	holdStays(t, x, p, api.ErrCorrupt)
	store(t, p, 2, 3, 0, now[0])
	holdNext(t, x, p, false, api.OK)
	holdStays(t, x, p, api.ErrCorrupt)
	store(t, p, 3, 3, 1, now[1])
	holdNext(t, x, p, false, api.OK)
	holdReady(t, x, p)
}

// Of two slots that have the shard the least one's is looked at, as Load does; whether it lasts is not asked.
func TestCheckLeast(t *testing.T) {
	x, p, shards := atCheck(t)
	direct(t, p, 2, 1, slot.Frame(3, 0, []byte("another!")))
	holdNext(t, x, p, false, api.OK)
	direct(t, p, 3, 1, slot.Frame(3, 1, shards[1]))
	direct(t, p, 3, 0, slot.Frame(3, 1, []byte("another!")))
	holdStays(t, x, p, api.ErrCorrupt)
	direct(t, p, 3, 0, nil)
	holdNext(t, x, p, false, api.OK)
	holdReady(t, x, p)
}

// The power goes at each Write and Flush: the error is answered, and it is the next one again, behind a crash.
func TestPower(t *testing.T) {
	for fuse := range 9 {
		for _, keep := range []uint64{0, math.MaxUint64} {
			holdPower(t, fuse, keep)
		}
	}
}

// holdPower holds a move of four places that differ, in which the power goes behind so many Writes and Flushes.
func holdPower(t *testing.T, fuse int, keep uint64) {
	t.Helper()
	p := drives(t, 8, 1)
	s := stripeAt(3, 0, 1, 2, 3)
	lay(t, p, 2, 2, text, s)
	x := began(t, 2, 2, s, 4, 5, 6, 7)
	p.Fuse(fuse)
	holdDone(t, x, p, fuse)
	if fuse < 8 {
		holdStays(t, x, p, api.ErrDown)
	} else {
		// Looks take no power.
		holdDone(t, x, p, 4)
		holdReady(t, x, p)
	}
	p.Crash(keep)
	if fuse == 8 {
		holdReady(t, x, p)
		return
	}
	holdDone(t, x, p, 8-fuse)
	for n := range 4 {
		// What was stored, but not flushed, when the power went, is not there if nothing that is loose lasts.
		if keep == 0 && n < fuse && n >= fuse-4 {
			holdStays(t, x, p, api.ErrNone)
			store(t, p, 4+n, 3, n, encoded(t, 2, 2, text[:16])[n])
		}
		holdNext(t, x, p, false, api.OK)
	}
	holdReady(t, x, p)
}

// The power is gone ahead of the first one, and a shard is looked at all the same.
func TestPowerGone(t *testing.T) {
	x, p, _ := atCheck(t)
	p.Fuse(0)
	if e := p.Flush(0); e != api.ErrDown {
		t.Fatalf("Flush = %d", e)
	}
	holdDone(t, x, p, 2)
	holdReady(t, x, p)
}

// What is ready is ready for ever: whatever becomes of the shards, the drives, the power and the pool.
func TestForEver(t *testing.T) {
	x, p, _ := atCheck(t)
	holdDone(t, x, p, 2)
	holdReady(t, x, p)
	store(t, p, 2, 3, 0, []byte("another!"))
	holdReady(t, x, p)
	erase(t, p, 3, 3, 1)
	holdReady(t, x, p)
	p.Fuse(0)
	holdReady(t, x, p)
	p.Flush(0)
	holdReady(t, x, p)
	p.Crash(5)
	holdReady(t, x, p)
	for n := range 4 {
		p.Drive(n).Lose()
		holdReady(t, x, p)
	}
	for _, other := range []*pool.Pool{nil, {}, pool.New(), drives(t, 4, 1)} {
		holdReady(t, x, other)
	}
	for range 1000 {
		holdNext(t, x, p, true, api.OK)
	}
	holdHanded(t, x, stripeAt(3, 0, 1), []int{2, 3})
}

// Of no places that differ nothing is asked: it is ready at once, whatever pool there is, also where nothing of the stripe is.
func TestNoneDiffer(t *testing.T) {
	for _, p := range []*pool.Pool{nil, {}, pool.New(), drives(t, 2, 0)} {
		holdReady(t, began(t, 1, 1, stripeAt(3, 0, 1), 0, 1), p)
		holdReady(t, began(t, 1, 1, stripeAt(-3, -7, 99), -7, 99), p)
		holdReady(t, began(t, 1, 1, stripeAt(3, 5, 5), 5, 5), p)
		holdReady(t, began(t, 0, 0, api.Stripe{}), p)
		holdReady(t, &Move{}, p)
	}
}

// A pool that there is not has no shards, and another one is a pool as well: each call goes by the one that it is given.
func TestOtherPool(t *testing.T) {
	s := stripeAt(3, 0, 1)
	x := began(t, 1, 1, s, 2, 3)
	for _, p := range []*pool.Pool{nil, {}, pool.New()} {
		holdStays(t, x, p, api.ErrLost)
	}
	one, two := drives(t, 4, 1), drives(t, 4, 1)
	lay(t, one, 1, 1, text, s)
	lay(t, two, 1, 1, text, s)
	holdNext(t, x, one, false, api.OK)
	holdNext(t, x, two, false, api.OK)
	holdHeld(t, one, 2, 1, [2]int{3, 0})
	holdHeld(t, one, 3, 0)
	holdHeld(t, two, 2, 0)
	holdHeld(t, two, 3, 1, [2]int{3, 1})
}

func TestNil(t *testing.T) {
	var x *Move
	for _, p := range []*pool.Pool{nil, {}, pool.New(), drives(t, 2, 1)} {
		was := seen(p)
		holdNext(t, x, p, false, api.ErrArg)
		holdSeen(t, p, was)
	}
	if s := x.Stripe(); s.ID != 0 || s.Epoch != 0 || s.Locs != nil {
		t.Errorf("Stripe() = %v", s)
	}
	if target := x.Target(); target != nil {
		t.Errorf("Target() = %v", target)
	}
}

// New has none of Locs that are not k + m, and of a target that has not as many.
func TestNewCounts(t *testing.T) {
	list := make([]int, 24)
	for k := -2; k <= api.MaxK+2; k++ {
		for m := -2; m <= api.MaxM+2; m++ {
			for locs := range 12 {
				for target := range 12 {
					x := New(k, m, stripeAt(3, list[:locs]...), list[:target])
					if there := locs == k+m && target == k+m; (x != nil) != there {
						t.Errorf("New(%d, %d, of %d Locs, %d): %v, want %v", k, m, locs, target, x != nil, there)
					}
				}
			}
		}
	}
}

// k and m at the ends of int, where the sum of two may wrap round.
func TestNewEnds(t *testing.T) {
	list := make([]int, 8)
	least, most := math.MinInt, math.MaxInt
	ends := []int{least, least + 1, least + 2, least + 4, least + 7, most, most - 1, most - 2, -1, 0, 1, -1 << 32, 1 << 32, least / 2, most/2 + 1}
	for _, k := range ends {
		for _, m := range ends {
			for many := range 8 {
				sum := new(big.Int).Add(big.NewInt(int64(k)), big.NewInt(int64(m)))
				there := sum.Cmp(big.NewInt(int64(many))) == 0
				if x := New(k, m, stripeAt(3, list[:many]...), list[:many]); (x != nil) != there {
					t.Errorf("New(%d, %d, of %d): %v, want %v", k, m, many, x != nil, there)
				}
			}
		}
	}
	x := began(t, most, least+3, stripeAt(3, 0, 0), 0, 1)
	holdStays(t, x, drives(t, 2, 1), api.ErrArg)
}

// Many places, that no code has: the first one that differs has an error, and of none it is ready.
func TestManyPlaces(t *testing.T) {
	const many = 100000
	locs, target := make([]int, many), make([]int, many)
	p := drives(t, 2, 1)
	x := began(t, many, 0, stripeAt(3, locs...), target...)
	holdReady(t, x, p)
	target[many-1] = 1
	x = began(t, many-7, 7, stripeAt(3, locs...), target...)
	holdStays(t, x, p, api.ErrArg)
	holdHanded(t, x, stripeAt(3, locs...), target)
}

// Stripe and Target are as handed in, whatever the numbers, and whatever is done.
func TestHanded(t *testing.T) {
	for _, n := range append(far(), 0, 5) {
		s := api.Stripe{ID: n, Epoch: -n, Locs: []int{n, 0, n}}
		x := began(t, 1, 2, s, 0, n, n)
		for range 3 {
			holdHanded(t, x, s, []int{0, n, n})
			x.Next(pool.New())
		}
	}
	p := drives(t, 4, 1)
	s := api.Stripe{ID: 3, Epoch: 77, Locs: []int{0, 1}}
	lay(t, p, 1, 1, text, s)
	x := began(t, 1, 1, s, 2, 3)
	for range 8 {
		holdHanded(t, x, s, []int{2, 3})
		x.Next(p)
	}
	holdReady(t, x, p)
	holdHanded(t, x, s, []int{2, 3})
	for _, none := range [][]int{nil, {}} {
		holdHanded(t, began(t, 0, 0, stripeAt(3, none...), none...), stripeAt(3), nil)
	}
}

// A stripe's epoch does not count in what is done.
func TestEpoch(t *testing.T) {
	for _, epoch := range append(far(), 0) {
		p := drives(t, 2, 1)
		s := api.Stripe{ID: 3, Epoch: epoch, Locs: []int{0}}
		lay(t, p, 1, 0, text, s)
		x := began(t, 1, 0, s, 1)
		holdDone(t, x, p, 3)
		holdReady(t, x, p)
	}
}

// Others do theirs between: two moves of stripes that change drives, step by step.
func TestTwoMoves(t *testing.T) {
	p := drives(t, 4, 2)
	a, b := stripeAt(3, 0, 1), stripeAt(4, 2, 3)
	lay(t, p, 1, 1, text, a)
	lay(t, p, 1, 1, text[8:], b)
	x, y := began(t, 1, 1, a, 2, 3), began(t, 1, 1, b, 0, 1)
	for range 6 {
		holdDone(t, x, p, 1)
		holdDone(t, y, p, 1)
	}
	holdReady(t, x, p)
	holdReady(t, y, p)
	for _, s := range []api.Stripe{a, b, stripeAt(3, 2, 3), stripeAt(4, 0, 1)} {
		if !shard.Whole(p, s) {
			t.Errorf("%v is not whole", s)
		}
	}
}

// A stripe that is wrong is moved to its target, and is not wrong any more, nor is what was left behind its own.
func TestWithPlan(t *testing.T) {
	there, p := table.New(2, 1), drives(t, 12, 2)
	states := slices.Repeat([]int{api.In}, 12)
	s := stripeAt(16, 0, 1, 2)
	for _, r := range []api.Rec{{Kind: api.RecPool, ID: 1, Drives: states}, {Kind: api.RecPut, Key: "key", ID: 1, Size: 16, Stripes: []api.Stripe{s}}} {
		if e := there.Apply(r); e != api.OK {
			t.Fatalf("Apply(%v) = %d", r, e)
		}
	}
	lay(t, p, 2, 1, text, s)
	target, _ := plan.Target(there, 16, 3)
	x := began(t, 2, 1, s, target...)
	was := there.All()
	holdDone(t, x, p, 9)
	holdReady(t, x, p)
	if !rec.Same(there.All(), was) {
		t.Errorf("the table is another: %v, was %v", there.All(), was)
	}
	to := api.Stripe{ID: 16, Epoch: 2, Locs: x.Target()}
	if e := there.Apply(api.Rec{Kind: api.RecMove, Stripes: []api.Stripe{to}}); e != api.OK {
		t.Fatalf("Apply of the move = %d", e)
	}
	if list := plan.Wrong(there, 3); len(list) != 0 {
		t.Errorf("Wrong: %v", list)
	}
	if b, e := shard.Read(p, 2, 1, to); string(b) != text[:16] || e != api.OK {
		t.Errorf("Read = %q, %d", b, e)
	}
	if n, id, pos, ok := plan.Stray(p, there, nil); !ok || n != 0 || id != 16 || pos != 0 {
		t.Errorf("Stray = %d, %d, %d, %v", n, id, pos, ok)
	}
}
