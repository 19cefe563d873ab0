package shard

import (
	"bytes"
	"math"
	"slices"
	"strings"
	"testing"

	"flitting/api"
	"flitting/pool"
	"flitting/rs"
	"flitting/slot"
)

// text is data for four parts.
const text = "thirty-two bytes are four shards"

// drives is a pool of so many drives, of so many slots each.
func drives(t *testing.T, many, slots int) *pool.Pool {
	t.Helper()
	p := pool.New()
	for range many {
		if _, e := p.Add(slots); e != api.OK {
			t.Fatalf("Add(%d) = %d", slots, e)
		}
	}
	return p
}

func store(t *testing.T, p *pool.Pool, n, stripe, pos int, b []byte) {
	t.Helper()
	if e := p.Store(n, stripe, pos, b); e != api.OK {
		t.Fatalf("Store(%d, %d, %d, %v) = %d", n, stripe, pos, b, e)
	}
}

func flush(t *testing.T, p *pool.Pool, n int) {
	t.Helper()
	if e := p.Flush(n); e != api.OK {
		t.Fatalf("Flush(%d) = %d", n, e)
	}
}

func erase(t *testing.T, p *pool.Pool, n, stripe, pos int) {
	t.Helper()
	if e := p.Erase(n, stripe, pos); e != api.OK {
		t.Fatalf("Erase(%d, %d, %d) = %d", n, stripe, pos, e)
	}
}

// direct writes to a slot without the pool.
func direct(t *testing.T, p *pool.Pool, n, at int, b []byte) {
	t.Helper()
	if e := p.Drive(n).Write(at, b); e != api.OK {
		t.Fatalf("a drive's Write(%d) = %d", at, e)
	}
}

// encoded is the shards of data.
func encoded(t *testing.T, k, m int, data string) [][]byte {
	t.Helper()
	shards, e := rs.Encode(k, m, []byte(data))
	if e != api.OK {
		t.Fatalf("Encode(%d, %d, %q) = %d", k, m, data, e)
	}
	return shards
}

// laid is a stripe of the first bytes of text, of which each shard lasts; its places are the last drives, falling.
func laid(t *testing.T, p *pool.Pool, k, m, id int) (api.Stripe, [][]byte) {
	t.Helper()
	s := api.Stripe{ID: id, Epoch: 1}
	shards := encoded(t, k, m, text[:k*api.ShardLen])
	for pos, b := range shards {
		n := p.Len() - 1 - pos
		store(t, p, n, id, pos, b)
		flush(t, p, n)
		s.Locs = append(s.Locs, n)
	}
	return s, shards
}

func holdRead(t *testing.T, p *pool.Pool, k, m int, s api.Stripe, want string, e api.Errno) {
	t.Helper()
	got, ge := Read(p, k, m, s)
	if string(got) != want || ge != e || ge != api.OK && got != nil {
		t.Errorf("Read(%d, %d, %v) = %q, %d, want %q, %d", k, m, s, got, ge, want, e)
	}
}

func holdOne(t *testing.T, p *pool.Pool, k, m int, s api.Stripe, at int, want []byte, e api.Errno) {
	t.Helper()
	got, ge := One(p, k, m, s, at)
	if !bytes.Equal(got, want) || ge != e || ge != api.OK && got != nil {
		t.Errorf("One(%d, %d, %v, %d) = %v, %d, want %v, %d", k, m, s, at, got, ge, want, e)
	}
}

func holdWhole(t *testing.T, p *pool.Pool, s api.Stripe, want bool) {
	t.Helper()
	if got := Whole(p, s); got != want {
		t.Errorf("Whole(%v) = %v, want %v", s, got, want)
	}
}

// ends are numbers that are no place of a stripe, nor a drive, of so many.
func ends(many int) []int {
	return []int{math.MinInt, -1 << 32, -many, -1, many, many + 1, 1 << 8, 1 << 32, math.MaxInt}
}

// holdAll holds Read and each One of a stripe that can be read.
func holdAll(t *testing.T, p *pool.Pool, k, m int, s api.Stripe, shards [][]byte) {
	t.Helper()
	holdRead(t, p, k, m, s, string(slices.Concat(shards[:k]...)), api.OK)
	for at, want := range shards {
		holdOne(t, p, k, m, s, at, want, api.OK)
	}
	for _, at := range ends(k + m) {
		if at < 0 || at >= k+m {
			holdOne(t, p, k, m, s, at, nil, api.ErrArg)
		}
	}
}

// holdNone holds Read and One, also of places that there are not, of a stripe that can not be read.
func holdNone(t *testing.T, p *pool.Pool, k, m int, s api.Stripe, e api.Errno) {
	t.Helper()
	holdRead(t, p, k, m, s, "", e)
	for _, at := range append(ends(k+m), 0, 1) {
		holdOne(t, p, k, m, s, at, nil, e)
	}
}

func TestKnown(t *testing.T) {
	p := drives(t, 3, 1)
	for pos, b := range []string{"sixteen ", "bytes do"} {
		store(t, p, pos+1, 16, pos, []byte(b))
	}
	s := api.Stripe{ID: 16, Epoch: 1, Locs: []int{1, 2, 0}}
	holdRead(t, p, 2, 1, s, "sixteen bytes do", api.OK)
	// Their first bytes by 142 and 244, the code's third row, and so on.
	third := []byte{98, 102, 16, 25, 102, 87, 224, 53}
	holdOne(t, p, 2, 1, s, 2, third, api.OK)
	holdWhole(t, p, s, false)
	store(t, p, 0, 16, 2, third)
	erase(t, p, 1, 16, 0)
	holdRead(t, p, 2, 1, s, "sixteen bytes do", api.OK)
	holdOne(t, p, 2, 1, s, 0, []byte("sixteen "), api.OK)
	erase(t, p, 2, 16, 1)
	holdNone(t, p, 2, 1, s, api.ErrLost)
}

// TestWhichAreThere holds all codes, with all choices of shards that are there, and ways in which the others are not.
func TestWhichAreThere(t *testing.T) {
	away := []func(t *testing.T, p *pool.Pool, s api.Stripe, pos int){
		func(t *testing.T, p *pool.Pool, s api.Stripe, pos int) { erase(t, p, s.Locs[pos], s.ID, pos) },
		func(t *testing.T, p *pool.Pool, s api.Stripe, pos int) { p.Drive(s.Locs[pos]).Lose() },
		func(t *testing.T, p *pool.Pool, s api.Stripe, pos int) { s.Locs[pos] = ends(p.Len())[pos] },
		func(t *testing.T, p *pool.Pool, s api.Stripe, pos int) {
			store(t, p, s.Locs[pos], s.ID, pos, []byte("shorter"))
		},
		func(t *testing.T, p *pool.Pool, s api.Stripe, pos int) {
			bad := slot.Frame(s.ID, pos, []byte("8 bytes!"))
			bad[pos] ^= 1
			direct(t, p, s.Locs[pos], 0, bad)
		},
	}
	for which, gone := range away {
		for k := 1; k <= api.MaxK; k++ {
			for m := range api.MaxM + 1 {
				for set := range 1 << (k + m) {
					holdChoice(t, k, m, set, which == 3, gone)
				}
			}
		}
	}
}

// holdChoice holds a stripe of which just the shards of set are there; is what is not there a shard that lasts or not, stays tells.
func holdChoice(t *testing.T, k, m, set int, stays bool, gone func(t *testing.T, p *pool.Pool, s api.Stripe, pos int)) {
	t.Helper()
	p := drives(t, k+m, 1)
	s, shards := laid(t, p, k, m, 3)
	holdWhole(t, p, s, true)
	there := 0
	for pos := range k + m {
		if set>>pos&1 == 1 {
			there++
		} else {
			gone(t, p, s, pos)
		}
	}
	for n := range p.Len() {
		p.Flush(n)
	}
	holdWhole(t, p, s, stays || there == k+m)
	if there < k {
		holdNone(t, p, k, m, s, api.ErrLost)
	} else {
		holdAll(t, p, k, m, s, shards)
	}
}

// TestFirst holds that the first k shards count, and no other.
func TestFirst(t *testing.T) {
	p := drives(t, 5, 1)
	s, shards := laid(t, p, 2, 3, 1)
	wrong := []byte("wrong!!!")
	for pos := 2; pos < 5; pos++ {
		store(t, p, s.Locs[pos], 1, pos, wrong)
	}
	holdAll(t, p, 2, 3, s, shards)
	erase(t, p, s.Locs[0], 1, 0)
	want, _ := rs.Decode(2, 3, [][]byte{nil, shards[1], wrong, nil, nil})
	holdAll(t, p, 2, 3, s, encoded(t, 2, 3, string(want)))
	erase(t, p, s.Locs[1], 1, 1)
	want, _ = rs.Decode(2, 3, [][]byte{nil, nil, wrong, wrong, nil})
	holdAll(t, p, 2, 3, s, encoded(t, 2, 3, string(want)))
	erase(t, p, s.Locs[4], 1, 4)
	holdAll(t, p, 2, 3, s, encoded(t, 2, 3, string(want)))
	erase(t, p, s.Locs[3], 1, 3)
	holdNone(t, p, 2, 3, s, api.ErrLost)
}

// TestOthers holds that a shard counts at its own place of its own stripe alone, on its own drive.
func TestOthers(t *testing.T) {
	p := drives(t, 4, 4)
	b := []byte("8 bytes!")
	store(t, p, 0, 5, 0, b)
	for _, s := range []api.Stripe{
		{ID: 5, Locs: []int{1}}, {ID: 4, Locs: []int{0}}, {ID: 6, Locs: []int{0}}, {Locs: []int{0}},
		{ID: 5 + 1<<32, Locs: []int{0}}, {ID: 5 - 1<<32, Locs: []int{0}}, {ID: -5, Locs: []int{0}},
		{ID: math.MinInt, Locs: []int{0}}, {ID: math.MaxInt, Locs: []int{0}},
		{ID: 5, Locs: []int{-1}}, {ID: 5, Locs: []int{4}}, {ID: 5, Locs: []int{1 << 32}}, {ID: 5, Locs: []int{math.MinInt}},
	} {
		holdNone(t, p, 1, 0, s, api.ErrLost)
		holdWhole(t, p, s, false)
	}
	flush(t, p, 0)
	// The epoch is not asked, and the place is that in Locs: at 1 there is no shard.
	for _, epoch := range []int{math.MinInt, 0, 7, math.MaxInt} {
		s := api.Stripe{ID: 5, Epoch: epoch, Locs: []int{0}}
		holdAll(t, p, 1, 0, s, [][]byte{b})
		holdWhole(t, p, s, true)
	}
	holdNone(t, p, 2, 0, api.Stripe{ID: 5, Locs: []int{0, 0}}, api.ErrLost)
	holdWhole(t, p, api.Stripe{ID: 5, Locs: []int{0, 0}}, false)
	holdNone(t, p, 1, 1, api.Stripe{ID: 5, Locs: []int{3, 0}}, api.ErrLost)
	holdAll(t, p, 1, 1, api.Stripe{ID: 5, Locs: []int{0, 0}}, encoded(t, 1, 1, string(b)))
}

// TestOneDrive holds a stripe of which all shards are on one drive.
func TestOneDrive(t *testing.T) {
	p := drives(t, 2, 9)
	s := api.Stripe{ID: api.MaxID, Locs: []int{1, 1, 1, 1, 1, 1, 1}}
	shards := encoded(t, 4, 3, text)
	for pos := 6; pos >= 0; pos-- {
		store(t, p, 1, api.MaxID, pos, shards[pos])
	}
	holdAll(t, p, 4, 3, s, shards)
	holdWhole(t, p, s, false)
	flush(t, p, 1)
	holdWhole(t, p, s, true)
	for pos := range 3 {
		erase(t, p, 1, api.MaxID, pos)
		holdAll(t, p, 4, 3, s, shards)
	}
	// What is erased lasts till that is flushed.
	holdWhole(t, p, s, true)
	flush(t, p, 1)
	holdWhole(t, p, s, false)
}

// TestLength holds shards of other lengths: they are none to Read and One, but last.
func TestLength(t *testing.T) {
	for length := range 51 {
		p := drives(t, 3, 1)
		s, shards := laid(t, p, 1, 2, 2)
		b := []byte(strings.Repeat("x", length))
		store(t, p, s.Locs[0], 2, 0, b)
		flush(t, p, s.Locs[0])
		holdWhole(t, p, s, true)
		if length == api.ShardLen {
			shards = encoded(t, 1, 2, string(b))
		}
		holdAll(t, p, 1, 2, s, shards)
		only := api.Stripe{ID: 2, Locs: s.Locs[:1]}
		holdWhole(t, p, only, true)
		if length == api.ShardLen {
			holdAll(t, p, 1, 0, only, shards[:1])
		} else {
			holdNone(t, p, 1, 0, only, api.ErrLost)
		}
	}
}

// TestLeast holds that of a shard that is in two slots the least one's counts, also if it has not the right length.
func TestLeast(t *testing.T) {
	p := drives(t, 1, 4)
	s := api.Stripe{ID: 2, Locs: []int{0}}
	direct(t, p, 0, 3, slot.Frame(2, 0, []byte("at three")))
	holdAll(t, p, 1, 0, s, [][]byte{[]byte("at three")})
	direct(t, p, 0, 2, slot.Frame(2, 0, []byte("at two..")))
	holdAll(t, p, 1, 0, s, [][]byte{[]byte("at two..")})
	direct(t, p, 0, 1, slot.Frame(2, 0, []byte("too long.")))
	holdNone(t, p, 1, 0, s, api.ErrLost)
	holdWhole(t, p, s, false)
	flush(t, p, 0)
	holdWhole(t, p, s, true)
}

// TestHowMany holds Locs that are not k + m, and k and m that make no code: ErrArg, whatever is there.
func TestHowMany(t *testing.T) {
	full := drives(t, 12, 1)
	s, _ := laid(t, full, 4, 3, 9)
	empty := drives(t, 0, 0)
	for k := -1; k <= api.MaxK+2; k++ {
		for m := -2; m <= api.MaxM+2; m++ {
			for many := range 8 {
				some := api.Stripe{ID: 9, Locs: s.Locs[:many]}
				right := 1 <= k && k <= api.MaxK && 0 <= m && m <= api.MaxM && many == k+m
				if !right {
					holdNone(t, full, k, m, some, api.ErrArg)
					holdNone(t, empty, k, m, some, api.ErrArg)
				} else {
					holdNone(t, empty, k, m, some, api.ErrLost)
				}
			}
		}
	}
	far := []int{math.MinInt, math.MinInt + 1, math.MinInt + 7, -1 << 32, 1 << 32, 1<<32 + 4, math.MaxInt - 7, math.MaxInt}
	for _, k := range far {
		for _, m := range append(far, 0, 3) {
			for many := range 8 {
				holdNone(t, full, k, m, api.Stripe{ID: 9, Locs: s.Locs[:many]}, api.ErrArg)
				holdNone(t, full, m, k, api.Stripe{ID: 9, Locs: s.Locs[:many]}, api.ErrArg)
			}
		}
	}
	long := api.Stripe{ID: 9, Locs: slices.Concat(s.Locs, make([]int, 1000))}
	holdNone(t, full, 4, 3, long, api.ErrArg)
	holdNone(t, full, 1003, 4, long, api.ErrArg)
	holdWhole(t, full, long, false)
}

// TestWhole holds Whole of any count of places, also of none, and of more than shards can have.
func TestWhole(t *testing.T) {
	p := drives(t, 2, api.MaxCap)
	holdWhole(t, p, api.Stripe{ID: 1}, true)
	holdWhole(t, p, api.Stripe{ID: 1, Locs: []int{}}, true)
	s := api.Stripe{ID: 1}
	for pos := range 256 {
		s.Locs = append(s.Locs, pos/128)
		store(t, p, pos/128, 1, pos, []byte{byte(pos)})
	}
	flush(t, p, 0)
	flush(t, p, 1)
	for many := range 257 {
		holdWhole(t, p, api.Stripe{ID: 1, Locs: s.Locs[:many]}, true)
	}
	// Pos 256 is in one byte as pos 0 is.
	s.Locs = append(s.Locs, 0)
	holdWhole(t, p, s, false)
	s.Locs = s.Locs[:256]
	for _, pos := range []int{0, 1, 127, 128, 254, 255} {
		was := s.Locs[pos]
		for _, n := range append(ends(2), 1-was) {
			s.Locs[pos] = n
			holdWhole(t, p, s, false)
		}
		s.Locs[pos] = was
	}
	holdWhole(t, p, s, true)
	p.Drive(1).Lose()
	holdWhole(t, p, s, false)
	holdWhole(t, p, api.Stripe{ID: 1, Locs: s.Locs[:128]}, true)
}

// TestNil holds that no pool has no shards.
func TestNil(t *testing.T) {
	holdNone(t, nil, 0, 0, api.Stripe{}, api.ErrArg)
	holdNone(t, nil, 1, 0, api.Stripe{}, api.ErrArg)
	holdNone(t, nil, 1, 1, api.Stripe{Locs: []int{0, 0}}, api.ErrLost)
	holdNone(t, &pool.Pool{}, 1, 1, api.Stripe{Locs: []int{0, 0}}, api.ErrLost)
	holdWhole(t, nil, api.Stripe{}, true)
	holdWhole(t, nil, api.Stripe{Locs: []int{0}}, false)
	holdWhole(t, &pool.Pool{}, api.Stripe{Locs: []int{0}}, false)
}

// TestPower holds that nothing takes power, and all is told while it is gone.
func TestPower(t *testing.T) {
	p := drives(t, 3, 2)
	s, shards := laid(t, p, 2, 1, 4)
	p.Fuse(1)
	for range 3 {
		holdAll(t, p, 2, 1, s, shards)
		holdWhole(t, p, s, true)
	}
	erase(t, p, s.Locs[1], 4, 1)
	if e := p.Flush(s.Locs[1]); e != api.ErrDown {
		t.Fatalf("Flush = %d, want ErrDown", e)
	}
	holdAll(t, p, 2, 1, s, shards)
	holdWhole(t, p, s, true)
	erased := api.Stripe{ID: 4, Locs: []int{s.Locs[0], s.Locs[1]}}
	holdNone(t, p, 2, 0, erased, api.ErrLost)
	p.Crash(0)
	holdAll(t, p, 2, 0, erased, shards[:2])
}

// TestMemory holds rule R4: what is handed in stays, and what is answered is new.
func TestMemory(t *testing.T) {
	p := drives(t, 7, 1)
	s, shards := laid(t, p, 4, 3, 1)
	room := append(slices.Clone(s.Locs), 99, 98)
	s.Locs = room[:7]
	for range 3 {
		data, e := Read(p, 4, 3, s)
		spoil(t, data, e)
		for at := range 7 {
			one, e := One(p, 4, 3, s, at)
			spoil(t, one, e)
		}
		Whole(p, s)
		holdAll(t, p, 4, 3, s, shards)
		if !slices.Equal(room, []int{6, 5, 4, 3, 2, 1, 0, 99, 98}) {
			t.Errorf("Locs and their room are %v", room)
		}
	}
	first, _ := One(p, 4, 3, s, 0)
	again, _ := One(p, 4, 3, s, 0)
	data, _ := Read(p, 4, 3, s)
	spoil(t, first, api.OK)
	if string(again) != text[:8] || string(data) != text {
		t.Errorf("an answer is another when one was changed: %q, %q", again, data)
	}
}

// spoil changes an answer, its spare room included.
func spoil(t *testing.T, b []byte, e api.Errno) {
	t.Helper()
	if e != api.OK {
		t.Errorf("error %d", e)
	}
	b = b[:cap(b)]
	for at := range b {
		b[at] ^= 255
	}
}
