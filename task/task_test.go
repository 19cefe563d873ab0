package task

import (
	"bytes"
	"math"
	"slices"
	"strconv"
	"strings"
	"testing"

	"flitting/api"
	"flitting/plan"
	"flitting/pool"
	"flitting/rank"
	"flitting/rec"
	"flitting/rs"
	"flitting/shard"
	"flitting/stripe"
	"flitting/table"
)

// text is as many bytes as there may be.
const text = "Moving house while people live in it: ninety-six bytes are just what an object may have, no more"

// drives is a pool of so many drives, of so many slots each.
func drives(t *testing.T, many, slots int) *pool.Pool {
	t.Helper()
	p := pool.New()
	for range many {
		if _, e := p.Add(slots); e != api.OK {
			t.Fatalf("Add(%d) = %d", slots, e)
		}
	}
	return p
}

func store(t *testing.T, p *pool.Pool, n, stripe, pos int, b []byte) {
	t.Helper()
	if e := p.Store(n, stripe, pos, b); e != api.OK {
		t.Fatalf("Store(%d, %d, %d, %v) = %d", n, stripe, pos, b, e)
	}
}

func erase(t *testing.T, p *pool.Pool, n, stripe, pos int) {
	t.Helper()
	if e := p.Erase(n, stripe, pos); e != api.OK {
		t.Fatalf("Erase(%d, %d, %d) = %d", n, stripe, pos, e)
	}
}

// in is the states of so many drives, all In.
func in(many int) []int {
	return slices.Repeat([]int{api.In}, many)
}

// began is a task that there is.
func began(t *testing.T, id, op int, key string, data string) *Task {
	t.Helper()
	x := New(id, op, key, []byte(data))
	if x == nil {
		t.Fatalf("New(%d, %d, %q, %q): none", id, op, key, data)
	}
	return x
}

// put is a Put of data.
func put(t *testing.T, data string) *Task {
	t.Helper()
	return began(t, 1, api.Put, "key", data)
}

func holdPlan(t *testing.T, x *Task, k, m, version int, states []int, epoch int, e api.Errno) {
	t.Helper()
	if got := x.Plan(k, m, version, states, epoch); got != e {
		t.Fatalf("Plan(%d, %d, %d, %v, %d) = %d, want %d", k, m, version, states, epoch, got, e)
	}
}

// planned is a Put of data, of version 1, that is planned for so many drives, all In.
func planned(t *testing.T, k, m int, data string, many int) *Task {
	t.Helper()
	x := put(t, data)
	holdPlan(t, x, k, m, 1, in(many), 1, api.OK)
	return x
}

func holdNext(t *testing.T, x *Task, p *pool.Pool, k, m int, ready bool, e api.Errno) {
	t.Helper()
	if r, ge := x.Next(p, k, m); r != ready || ge != e {
		t.Fatalf("Next(%d, %d) = %v, %d, want %v, %d", k, m, r, ge, ready, e)
	}
}

// holdDone holds that the next ones are done, so many, and nothing is ready.
func holdDone(t *testing.T, x *Task, p *pool.Pool, k, m, many int) {
	t.Helper()
	for range many {
		holdNext(t, x, p, k, m, false, api.OK)
	}
}

// holdStays holds that Next answers an error, whenever it is asked, and changes nothing.
func holdStays(t *testing.T, x *Task, p *pool.Pool, k, m int, e api.Errno) {
	t.Helper()
	was := seen(p)
	for range 3 {
		holdNext(t, x, p, k, m, false, e)
	}
	holdSeen(t, p, was)
}

// holdReady holds that Next has nothing to do, whenever it is asked.
func holdReady(t *testing.T, x *Task, p *pool.Pool, k, m int) {
	t.Helper()
	was := seen(p)
	for range 3 {
		holdNext(t, x, p, k, m, true, api.OK)
	}
	holdSeen(t, p, was)
}

// seen is all that the drives have, what of it lasts, how much is loose, and which are lost.
func seen(p *pool.Pool) []string {
	var list []string
	for n := range p.Len() {
		d := p.Drive(n)
		line := strconv.FormatBool(d.Lost()) + " " + strconv.Itoa(d.Loose())
		for at := range d.Cap() {
			has, _ := d.Read(at)
			lasts, _ := d.Lasts(at)
			line += " " + strconv.Quote(string(has)) + " " + strconv.Quote(string(lasts))
		}
		list = append(list, line)
	}
	return list
}

func holdSeen(t *testing.T, p *pool.Pool, want []string) {
	t.Helper()
	if got := seen(p); !slices.Equal(got, want) {
		t.Fatalf("the drives have\n%q, want\n%q", got, want)
	}
}

// holdHeld holds which shards drive n has, and how many Writes are loose.
func holdHeld(t *testing.T, p *pool.Pool, n, loose int, want ...[2]int) {
	t.Helper()
	if got := p.Held(n); !slices.Equal(got, want) || p.Drive(n).Loose() != loose {
		t.Errorf("drive %d has %v, %d loose, want %v, %d", n, got, p.Drive(n).Loose(), want, loose)
	}
}

func same(a, b api.Object) bool {
	return a.Key == b.Key && a.ID == b.ID && a.Size == b.Size &&
		slices.EqualFunc(a.Stripes, b.Stripes, func(s, r api.Stripe) bool {
			return s.ID == r.ID && s.Epoch == r.Epoch && slices.Equal(s.Locs, r.Locs)
		})
}

func holdObject(t *testing.T, x *Task, want api.Object) {
	t.Helper()
	if got := x.Object(); !same(got, want) {
		t.Errorf("Object() = %v, want %v", got, want)
	}
}

// wanted is the object of a Put, by chapters 12, 14 and 16.
func wanted(t *testing.T, key string, k, m, version, size int, states []int, epoch int) api.Object {
	t.Helper()
	o := api.Object{Key: key, ID: version, Size: size}
	for n := range (size + 8*k - 1) / (8 * k) {
		locs, ok := rank.Targets(16*version+n, states, k+m)
		if !ok {
			t.Fatalf("no Targets of %d", 16*version+n)
		}
		o.Stripes = append(o.Stripes, api.Stripe{ID: 16*version + n, Epoch: epoch, Locs: locs})
	}
	return o
}

// far are numbers at the ends of int, and of what stands in fewer bits.
func far() []int {
	return []int{math.MinInt64, -1 << 32, -1, 0, 5, 12, 1 << 8, 1 << 30, 1 << 32, 1<<32 + 1, math.MaxInt64}
}

// eachCode does it for all codes.
func eachCode(do func(k, m int)) {
	for k := 1; k <= api.MaxK; k++ {
		for m := range api.MaxM + 1 {
			do(k, m)
		}
	}
}

// The document's example.
func TestExample(t *testing.T) {
	x := put(t, "")
	holdPlan(t, x, 2, 1, 1, in(3), 1, api.OK)
	holdReady(t, x, drives(t, 3, 1), 2, 1)
}

// A Put of nothing has no stripes, so that none has no Targets, whatever drives there are.
func TestNothing(t *testing.T) {
	for _, states := range [][]int{nil, {}, in(12), {api.Gone, api.Draining}} {
		eachCode(func(k, m int) {
			for _, p := range []*pool.Pool{nil, {}, pool.New(), drives(t, 2, 0)} {
				x := New(1, api.Put, "key", nil)
				holdNext(t, x, p, k, m, false, api.ErrArg)
				holdObject(t, x, api.Object{})
				holdPlan(t, x, k, m, 7, states, 3, api.OK)
				holdReady(t, x, p, k, m)
				holdObject(t, x, api.Object{Key: "key", ID: 7})
			}
		})
	}
}

// What Check answers of all operations, and of keys and data of all lengths about the limits, and New by it.
func TestCheck(t *testing.T) {
	for op := -2; op <= 7; op++ {
		for key := range 20 {
			for data := range 100 {
				want := api.OK
				if op == api.Put && data > 96 {
					want = api.ErrTooLarge
				}
				if op != api.List && (key == 0 || key > 16) {
					want = api.ErrBadKey
				}
				if op < 1 || op > 4 {
					want = api.ErrArg
				}
				holdCheck(t, op, strings.Repeat("k", key), make([]byte, data), want)
			}
		}
	}
}

// holdCheck holds Check's answer, and that New has one just if there is no error.
func holdCheck(t *testing.T, op int, key string, data []byte, want api.Errno) {
	t.Helper()
	if e := Check(op, key, data); e != want {
		t.Errorf("Check(%d, of %d bytes, of %d bytes) = %d, want %d", op, len(key), len(data), e, want)
	}
	if x := New(5, op, key, data); (x != nil) != (want == api.OK) {
		t.Errorf("New(5, %d, of %d bytes, of %d bytes): %v", op, len(key), len(data), x != nil)
	}
}

// Operations at the ends of int, and of fewer bits, are none.
func TestCheckOps(t *testing.T) {
	for _, op := range append(far(), 1<<8+1, 1<<16+2, 1<<32+4, -2, 256*256) {
		holdCheck(t, op, "key", nil, api.ErrArg)
		holdCheck(t, op, "", make([]byte, 97), api.ErrArg)
	}
}

// A key's bytes are counted, whatever they are, and data may be nothing.
func TestCheckBytes(t *testing.T) {
	for _, key := range []string{"\x00", "\xff\xfe", " ", "\n", "ééééééé", strings.Repeat("é", 8), strings.Repeat("\x00", 16)} {
		for op := api.Put; op <= api.List; op++ {
			holdCheck(t, op, key, nil, api.OK)
			holdCheck(t, op, key, []byte{}, api.OK)
			holdCheck(t, op, key, []byte(text), api.OK)
		}
	}
	for _, key := range []string{"", strings.Repeat("é", 9), strings.Repeat("\x00", 17), strings.Repeat("k", 1<<20), strings.Repeat("k", 1<<8+1)} {
		for op := api.Put; op < api.List; op++ {
			holdCheck(t, op, key, nil, api.ErrBadKey)
			holdCheck(t, op, key, make([]byte, 1<<20), api.ErrBadKey)
		}
		holdCheck(t, api.List, key, make([]byte, 1<<20), api.OK)
	}
	for _, many := range []int{97, 1 << 8, 1<<8 + 1, 1<<16 + 1, 1 << 20} {
		holdCheck(t, api.Put, "key", make([]byte, many), api.ErrTooLarge)
		for _, op := range []int{api.Get, api.Del, api.List} {
			holdCheck(t, op, "key", make([]byte, many), api.OK)
		}
	}
}

// ID, Op, Key and Writes are as handed in, whatever is done.
func TestHanded(t *testing.T) {
	p := drives(t, 3, 9)
	for _, id := range far() {
		for op := api.Put; op <= api.List; op++ {
			for _, key := range []string{"k", "a\x00b", "sixteen bytes do"} {
				x := began(t, id, op, key, text)
				for range 3 {
					holdHanded(t, x, id, op, key)
					x.Plan(2, 1, 1, in(3), 1)
					x.Next(p, 2, 1)
					x.Object()
				}
			}
		}
	}
	x := began(t, 3, api.List, "", "")
	holdHanded(t, x, 3, api.List, "")
	x = began(t, 3, api.List, strings.Repeat("long", 9), "")
	holdHanded(t, x, 3, api.List, strings.Repeat("long", 9))
}

func holdHanded(t *testing.T, x *Task, id, op int, key string) {
	t.Helper()
	if x.ID() != id || x.Op() != op || x.Key() != key {
		t.Errorf("%d, %d, %q, want %d, %d, %q", x.ID(), x.Op(), x.Key(), id, op, key)
	}
	if writes := op == api.Put || op == api.Del; x.Writes() != writes {
		t.Errorf("Writes() of %d = %v", op, x.Writes())
	}
}

func TestNil(t *testing.T) {
	var x *Task
	if x.ID() != 0 || x.Op() != 0 || x.Key() != "" || x.Writes() {
		t.Errorf("%d, %d, %q, %v", x.ID(), x.Op(), x.Key(), x.Writes())
	}
	holdPlan(t, x, 2, 1, 1, in(3), 1, api.ErrArg)
	holdPlan(t, x, 2, 1, 1, nil, 1, api.ErrArg)
	if o := x.Object(); o.Key != "" || o.ID != 0 || o.Size != 0 || o.Stripes != nil {
		t.Errorf("Object() = %v", o)
	}
	for _, p := range []*pool.Pool{nil, {}, pool.New(), drives(t, 3, 1)} {
		holdStays(t, x, p, 2, 1, api.ErrArg)
	}
}

// Of the others there is no plan, whatever is asked, and so nothing to be done.
func TestNoPut(t *testing.T) {
	p := drives(t, 3, 1)
	for _, x := range []*Task{{}, began(t, 1, api.Get, "key", text), began(t, 1, api.Del, "key", text), began(t, 1, api.List, "key", text), began(t, 1, api.List, "", "")} {
		for range 2 {
			holdStays(t, x, p, 2, 1, api.ErrArg)
			holdStays(t, x, nil, 2, 1, api.ErrArg)
			holdObject(t, x, api.Object{})
			holdPlan(t, x, 2, 1, 1, in(3), 1, api.ErrArg)
			holdPlan(t, x, 2, 1, 1, nil, 1, api.ErrArg)
			holdPlan(t, x, 0, 0, 0, nil, 0, api.ErrArg)
		}
	}
}

// A Put without a plan has nothing to be done, nor one whose plan is refused.
func TestNoPlan(t *testing.T) {
	p := drives(t, 3, 9)
	for _, data := range []string{"", "a", text} {
		x := put(t, data)
		holdStays(t, x, p, 2, 1, api.ErrArg)
		holdObject(t, x, api.Object{})
		if data == "" {
			continue
		}
		holdPlan(t, x, 2, 1, 1, in(2), 1, api.ErrTooFew)
		holdStays(t, x, p, 2, 1, api.ErrArg)
		holdObject(t, x, api.Object{})
		holdPlan(t, x, 2, 1, 1, in(3), 1, api.OK)
		holdNext(t, x, p, 2, 1, false, api.OK)
	}
}

// The object of all codes, and of data of all lengths: it is right, and at its Targets.
func TestObject(t *testing.T) {
	states := []int{api.In, api.Draining, api.In, api.In, api.Gone, api.In, api.In, api.In, api.In, api.Draining, api.In, api.In}
	eachCode(func(k, m int) {
		there := table.New(k, m)
		for size := range api.MaxData + 1 {
			x := put(t, text[:size])
			holdPlan(t, x, k, m, size+1, states, 5, api.OK)
			o := x.Object()
			if want := wanted(t, "key", k, m, size+1, size, states, 5); !same(o, want) {
				t.Errorf("Object() = %v, want %v", o, want)
			}
			if e := there.Apply(api.Rec{Kind: api.RecPut, Key: o.Key, ID: o.ID, Size: o.Size, Stripes: o.Stripes}); e != api.OK {
				t.Errorf("%v is not right: %d", o, e)
			}
		}
	})
}

// A known object: the nearest drives first, of those that are In alone.
func TestObjectKnown(t *testing.T) {
	x := began(t, 9, api.Put, "sixteen bytes do", text[:17])
	holdPlan(t, x, 2, 1, 7, []int{api.In, api.In, api.Draining, api.In, api.Gone, api.In, 3, -1}, 4, api.OK)
	o := x.Object()
	if o.Key != "sixteen bytes do" || o.ID != 7 || o.Size != 17 || len(o.Stripes) != 2 {
		t.Fatalf("Object() = %v", o)
	}
	for n, want := range []string{"112 4 1 3 0", "113 4 3 5 1"} {
		s := o.Stripes[n]
		got := strconv.Itoa(s.ID) + " " + strconv.Itoa(s.Epoch)
		for _, drive := range s.Locs {
			got += " " + strconv.Itoa(drive)
		}
		if got != want {
			t.Errorf("stripe %d: %s, want %s", n, got, want)
		}
	}
}

// All versions and epochs that there may be, the ends beyond: an object's stripes have IDs that are 16 times its, and more.
func TestObjectVersions(t *testing.T) {
	for _, version := range append(far(), 1, 1<<25, 1<<25+1) {
		for _, epoch := range far() {
			x := put(t, text[:20])
			holdPlan(t, x, 1, 1, version, in(5), epoch, api.OK)
			holdObject(t, x, wanted(t, "key", 1, 1, version, 20, in(5), epoch))
		}
	}
	x := put(t, text)
	holdPlan(t, x, 1, 0, 1<<25, in(1), 0, api.OK)
	for n, s := range x.Object().Stripes {
		if s.ID != 1<<29+n || s.Epoch != 0 || !slices.Equal(s.Locs, []int{0}) {
			t.Errorf("stripe %d: %v", n, s)
		}
	}
}

// k + m drives that are In are enough, and one fewer is too few, however many others there are.
func TestTooFew(t *testing.T) {
	eachCode(func(k, m int) {
		for many := range 13 {
			states := slices.Concat([]int{api.Draining, api.Gone}, in(many), []int{api.Gone, api.Draining, 3, -1, 1 << 32})
			for _, size := range []int{1, 8 * k, 8*k + 1, 96} {
				want := api.OK
				if many < k+m {
					want = api.ErrTooFew
				}
				x := put(t, text[:min(size, 96)])
				holdPlan(t, x, k, m, 1, states, 1, want)
				if (x.Object().Key == "key") != (want == api.OK) {
					t.Errorf("%d and %d, of %d: %v", k, m, many, x.Object())
				}
			}
		}
	})
}

// A plan that is refused leaves the one ahead of it, and what of it was done.
func TestRefusedPlan(t *testing.T) {
	p := drives(t, 3, 9)
	x := planned(t, 2, 1, text[:20], 3)
	want := x.Object()
	for n := range 12 {
		holdPlan(t, x, 2, 1, 2, in(2), 7, api.ErrTooFew)
		holdPlan(t, x, 4, 3, 2, in(3), 7, api.ErrTooFew)
		holdPlan(t, x, 1, 0, 2, nil, 7, api.ErrTooFew)
		holdObject(t, x, want)
		holdNext(t, x, p, 2, 1, false, api.OK)
		if loose := p.Drive(0).Loose() + p.Drive(1).Loose() + p.Drive(2).Loose(); n < 6 && loose != n+1 {
			t.Errorf("%d are loose, want %d", loose, n+1)
		}
	}
	holdPlan(t, x, 2, 1, 2, nil, 7, api.ErrTooFew)
	holdReady(t, x, p, 2, 1)
	holdObject(t, x, want)
}

// Another plan is in the place of the one ahead of it, and nothing of it is done, wherever that one is.
func TestPlanAgain(t *testing.T) {
	for done := range 9 {
		p := drives(t, 4, 9)
		x := planned(t, 1, 1, text[:16], 4)
		for range done {
			x.Next(p, 1, 1)
		}
		was := seen(p)
		states := []int{api.Gone, api.In, api.In, api.In}
		holdPlan(t, x, 2, 1, 5, states, 9, api.OK)
		holdSeen(t, p, was)
		holdObject(t, x, wanted(t, "key", 2, 1, 5, 16, states, 9))
		holdDone(t, x, p, 2, 1, 6)
		holdReady(t, x, p, 2, 1)
		if s := x.Object().Stripes[0]; s.ID != 80 || !shard.Whole(p, s) {
			t.Errorf("%v is not whole", s)
		}
	}
}

// The same plan once more begins anew as well.
func TestSamePlan(t *testing.T) {
	p := drives(t, 2, 1)
	x := planned(t, 1, 1, "data", 2)
	holdDone(t, x, p, 1, 1, 4)
	holdReady(t, x, p, 1, 1)
	holdPlan(t, x, 1, 1, 1, in(2), 1, api.OK)
	first := x.Object().Stripes[0].Locs[0]
	erase(t, p, first, 16, 0)
	holdNext(t, x, p, 1, 1, false, api.OK)
	holdHeld(t, p, first, 2, [2]int{16, 0})
	holdDone(t, x, p, 1, 1, 3)
	holdReady(t, x, p, 1, 1)
}

// Two stripes of three places each: each thing that is done, one by one.
func TestOneByOne(t *testing.T) {
	p := drives(t, 3, 2)
	x := planned(t, 2, 1, text[:17], 3)
	o := x.Object()
	for n := range 6 {
		s, pos := o.Stripes[n/3], n%3
		shards, _ := rs.Encode(2, 1, []byte((text[:17] + strings.Repeat("\x00", 15))[n/3*16:][:16]))
		was := seen(p)
		if _, e := p.Load(s.Locs[pos], s.ID, pos); e != api.ErrNone {
			t.Errorf("stripe %d, pos %d, is there ahead of its turn: %d", s.ID, pos, e)
		}
		holdNext(t, x, p, 2, 1, false, api.OK)
		if b, e := p.Load(s.Locs[pos], s.ID, pos); e != api.OK || !bytes.Equal(b, shards[pos]) || p.Lasts(s.Locs[pos], s.ID, pos) {
			t.Errorf("stripe %d, pos %d: %q, %d, want %q, loose", s.ID, pos, b, e, shards[pos])
		}
		holdOthers(t, p, s.Locs[pos], was)
	}
	for n := range 6 {
		s, pos := o.Stripes[n/3], n%3
		// What another left loose there tells that the drive is flushed for each of its places.
		store(t, p, s.Locs[pos], s.ID, pos, []byte("loose"))
		was := seen(p)
		holdNext(t, x, p, 2, 1, false, api.OK)
		if p.Drive(s.Locs[pos]).Loose() != 0 || !p.Lasts(s.Locs[pos], s.ID, pos) {
			t.Errorf("stripe %d, pos %d, is loose", s.ID, pos)
		}
		holdOthers(t, p, s.Locs[pos], was)
	}
	holdReady(t, x, p, 2, 1)
}

// holdOthers holds that the drives but one are as they were.
func holdOthers(t *testing.T, p *pool.Pool, but int, was []string) {
	t.Helper()
	for n, line := range seen(p) {
		if n != but && line != was[n] {
			t.Errorf("drive %d is another: %s, was %s", n, line, was[n])
		}
	}
}

// All codes, and data of all lengths: twice as many things as there are shards, and the object is there, to last.
func TestWhole(t *testing.T) {
	eachCode(func(k, m int) {
		for size := range api.MaxData + 1 {
			holdWhole(t, k, m, text[:size])
		}
	})
}

// holdWhole holds a Put from its plan to its end.
func holdWhole(t *testing.T, k, m int, data string) {
	t.Helper()
	p := drives(t, 9, 12)
	x := planned(t, k, m, data, 9)
	o := x.Object()
	holdDone(t, x, p, k, m, 2*(k+m)*len(o.Stripes))
	holdReady(t, x, p, k, m)
	if !same(x.Object(), o) {
		t.Errorf("Object() = %v, was %v", x.Object(), o)
	}
	var parts [][]byte
	held := 0
	for _, s := range o.Stripes {
		if !shard.Whole(p, s) {
			t.Errorf("%d and %d: %v is not whole", k, m, s)
		}
		b, _ := shard.Read(p, k, m, s)
		parts = append(parts, b)
	}
	for n := range 9 {
		held += len(p.Held(n))
	}
	if b, ok := stripe.Join(parts, o.Size); !ok || string(b) != data || held != (k+m)*len(o.Stripes) {
		t.Errorf("%d and %d: %q, %v, of %d shards, want %q", k, m, b, ok, held, data)
	}
	for _, b := range bytes.Join(parts, nil)[len(data):] {
		if b != 0 {
			t.Errorf("%d and %d: the last part is filled up with %d", k, m, b)
		}
	}
}

// Data of any bytes, noughts at its end too, is what is stored.
func TestAnyBytes(t *testing.T) {
	for _, data := range []string{"\x00", "\x00\x00\x00", "a\x00", "\xff\xfe\x00\x80", strings.Repeat("\x00", 96), strings.Repeat("\xff", 96)} {
		holdWhole(t, 2, 2, data)
		holdWhole(t, 3, 0, data)
	}
}

// Store's ErrArg: a drive that there is not, till it is there, and a stripe that there can not be.
func TestStoreArg(t *testing.T) {
	p := drives(t, 2, 9)
	x := planned(t, 2, 1, text[:16], 3)
	place := slices.Index(x.Object().Stripes[0].Locs, 2)
	holdDone(t, x, p, 2, 1, place)
	holdStays(t, x, p, 2, 1, api.ErrArg)
	p.Add(1)
	holdDone(t, x, p, 2, 1, 6-place)
	holdReady(t, x, p, 2, 1)
	for _, version := range []int{-1, 1<<26 + 1, 1 << 32, 1 << 40} {
		x := put(t, "a")
		holdPlan(t, x, 2, 1, version, in(3), 1, api.OK)
		holdStays(t, x, p, 2, 1, api.ErrArg)
	}
	// The last ID that a stripe may have is this object's first, and no stripe behind it is stored.
	x = put(t, text[:9])
	holdPlan(t, x, 1, 0, 1<<26, in(3), 1, api.OK)
	holdDone(t, x, p, 1, 0, 1)
	holdStays(t, x, p, 1, 0, api.ErrArg)
}

// No pool has no drives, and another pool is one as well: each call goes by the one that it is given.
func TestOtherPool(t *testing.T) {
	x := planned(t, 1, 1, "a", 2)
	for _, p := range []*pool.Pool{nil, {}, pool.New()} {
		holdStays(t, x, p, 1, 1, api.ErrArg)
	}
	one, two := drives(t, 2, 1), drives(t, 2, 1)
	locs := x.Object().Stripes[0].Locs
	holdNext(t, x, one, 1, 1, false, api.OK)
	holdNext(t, x, two, 1, 1, false, api.OK)
	holdHeld(t, one, locs[0], 1, [2]int{16, 0})
	holdHeld(t, one, locs[1], 0)
	holdHeld(t, two, locs[0], 0)
	holdHeld(t, two, locs[1], 1, [2]int{16, 1})
	for _, p := range []*pool.Pool{nil, {}, pool.New()} {
		holdStays(t, x, p, 1, 1, api.ErrArg)
	}
	holdDone(t, x, one, 1, 1, 2)
	holdReady(t, x, two, 1, 1)
}

// A drive is lost ahead of each of the things that are done there: it is the next one again, and nothing ahead of it is done once more.
func TestLost(t *testing.T) {
	for at := range 12 {
		p := drives(t, 3, 9)
		x := planned(t, 2, 1, text[:32], 3)
		var row []int
		for _, s := range x.Object().Stripes {
			row = append(row, s.Locs...)
		}
		row = append(row, row...)
		holdDone(t, x, p, 2, 1, at)
		p.Drive(row[at]).Lose()
		holdStays(t, x, p, 2, 1, api.ErrLost)
		for n := range 3 {
			loose := 0
			for _, drive := range row[:min(at, 6)] {
				if drive == n && n != row[at] && !slices.Contains(row[min(at, 6):at], n) {
					loose++
				}
			}
			if got := p.Drive(n).Loose(); got != loose {
				t.Errorf("behind %d: of drive %d %d are loose, want %d", at, n, got, loose)
			}
		}
	}
}

// A drive without room, till it has some.
func TestFull(t *testing.T) {
	p := drives(t, 3, 1)
	x := planned(t, 2, 1, text[:16], 3)
	locs := x.Object().Stripes[0].Locs
	for pos, n := range locs {
		store(t, p, n, 99, 9, []byte("in the way"))
		holdStays(t, x, p, 2, 1, api.ErrFull)
		erase(t, p, n, 99, 9)
		holdNext(t, x, p, 2, 1, false, api.OK)
		holdHeld(t, p, n, 3, [2]int{16, pos})
	}
	holdDone(t, x, p, 2, 1, 3)
	holdReady(t, x, p, 2, 1)
	holdStays(t, planned(t, 2, 1, "a", 3), drives(t, 3, 0), 2, 1, api.ErrFull)
}

// One slot for each stripe is enough, and one fewer is not, of the last stripe alone.
func TestFullLastStripe(t *testing.T) {
	p := drives(t, 3, 11)
	x := planned(t, 1, 2, text, 3)
	holdDone(t, x, p, 1, 2, 33)
	holdStays(t, x, p, 1, 2, api.ErrFull)
	erase(t, p, x.Object().Stripes[11].Locs[0], 16+5, slices.Index(x.Object().Stripes[5].Locs, x.Object().Stripes[11].Locs[0]))
	holdNext(t, x, p, 1, 2, false, api.OK)
	holdStays(t, x, p, 1, 2, api.ErrFull)
}

// A shard that is there already is written over, in the same slot.
func TestThereAlready(t *testing.T) {
	p := drives(t, 1, 2)
	store(t, p, 0, 4, 0, []byte("fills up"))
	store(t, p, 0, 16, 0, []byte("old one"))
	x := planned(t, 1, 0, text[:8], 1)
	holdDone(t, x, p, 1, 0, 2)
	holdReady(t, x, p, 1, 0)
	holdHeld(t, p, 0, 0, [2]int{4, 0}, [2]int{16, 0})
	if b, _ := p.Load(0, 16, 0); string(b) != text[:8] {
		t.Errorf("%q", b)
	}
}

// A Flush asks nothing but its drive: not whether the shard is there yet.
func TestFlushAlone(t *testing.T) {
	p := drives(t, 2, 1)
	x := planned(t, 1, 1, "a", 2)
	holdDone(t, x, p, 1, 1, 2)
	for pos, n := range x.Object().Stripes[0].Locs {
		erase(t, p, n, 16, pos)
	}
	holdDone(t, x, p, 1, 1, 2)
	holdReady(t, x, p, 1, 1)
	for n := range 2 {
		holdHeld(t, p, n, 0)
	}
}

// The power goes at each Write and Flush: the error is answered, and it is the next one again, behind a crash.
func TestPower(t *testing.T) {
	for fuse := range 14 {
		for _, keep := range []uint64{0, math.MaxUint64} {
			holdPower(t, fuse, keep)
		}
	}
}

// holdPower holds a Put of six shards, in which the power goes behind so many Writes and Flushes.
func holdPower(t *testing.T, fuse int, keep uint64) {
	t.Helper()
	p := drives(t, 3, 2)
	x := planned(t, 2, 1, text[:32], 3)
	p.Fuse(fuse)
	holdDone(t, x, p, 2, 1, min(fuse, 12))
	if fuse >= 12 {
		holdReady(t, x, p, 2, 1)
		return
	}
	holdStays(t, x, p, 2, 1, api.ErrDown)
	p.Fuse(9)
	holdStays(t, x, p, 2, 1, api.ErrDown)
	p.Crash(keep)
	holdDone(t, x, p, 2, 1, 12-fuse)
	holdReady(t, x, p, 2, 1)
	// What was stored, but not flushed, when the power went, is gone if nothing that is loose lasts: the task does not look.
	for _, s := range x.Object().Stripes {
		if keep != 0 && !shard.Whole(p, s) {
			t.Errorf("fuse %d: %v is not whole", fuse, s)
		}
	}
	if b, e := shard.Read(p, 2, 1, x.Object().Stripes[0]); keep == 0 && fuse == 3 && e != api.ErrLost {
		t.Errorf("what was loose is there: %q, %d", b, e)
	}
}

// ErrFull is answered ahead of ErrDown, and ErrLost ahead of both; what is refused by k and m alone does not go by the drives.
func TestWhichError(t *testing.T) {
	p := drives(t, 1, 0)
	x := planned(t, 1, 0, "a", 1)
	p.Fuse(0)
	holdStays(t, x, p, 1, 0, api.ErrFull)
	holdStays(t, x, p, 2, 0, api.ErrArg)
	p.Drive(0).Lose()
	holdStays(t, x, p, 1, 0, api.ErrLost)
	holdStays(t, x, p, 2, 0, api.ErrArg)
}

// What is ready is ready for ever: whatever becomes of the shards, the drives, the power, the pool, and what is handed in.
func TestForEver(t *testing.T) {
	p := drives(t, 2, 1)
	x := planned(t, 1, 1, "data", 2)
	want := x.Object()
	holdDone(t, x, p, 1, 1, 4)
	holdReady(t, x, p, 1, 1)
	store(t, p, want.Stripes[0].Locs[0], 16, 0, []byte("another!"))
	holdReady(t, x, p, 1, 1)
	erase(t, p, want.Stripes[0].Locs[1], 16, 1)
	holdReady(t, x, p, 1, 1)
	p.Fuse(0)
	holdReady(t, x, p, 1, 1)
	p.Flush(0)
	holdReady(t, x, p, 1, 1)
	p.Crash(5)
	holdReady(t, x, p, 1, 1)
	for n := range 2 {
		p.Drive(n).Lose()
		holdReady(t, x, p, 1, 1)
	}
	for _, other := range []*pool.Pool{nil, {}, pool.New(), drives(t, 2, 1)} {
		holdReady(t, x, other, 1, 1)
	}
	for range 1000 {
		holdNext(t, x, p, 1, 1, true, api.OK)
	}
	holdObject(t, x, want)
}

// Where k and m make no code there may be a plan all the same; its shards can not be made.
func TestNoCode(t *testing.T) {
	p := drives(t, 12, 9)
	for k := -3; k <= 9; k++ {
		for m := -9; m <= 9; m++ {
			if 1 <= k && k <= api.MaxK && 0 <= m && m <= api.MaxM {
				continue
			}
			x := put(t, text[:20])
			switch {
			case k < 1:
				// Without stripes none has no Targets.
				holdPlan(t, x, k, m, 1, in(12), 3, api.OK)
				holdObject(t, x, api.Object{Key: "key", ID: 1, Size: 20})
				holdReady(t, x, p, k, m)
			case k+m < 0 || k+m > 12:
				holdPlan(t, x, k, m, 1, in(12), 3, api.ErrTooFew)
				holdStays(t, x, p, k, m, api.ErrArg)
			case k+m == 0:
				holdPlan(t, x, k, m, 1, in(12), 3, api.OK)
				holdReady(t, x, p, k, m)
			default:
				holdPlan(t, x, k, m, 1, in(12), 3, api.OK)
				holdObject(t, x, wanted(t, "key", k, m, 1, 20, in(12), 3))
				holdStays(t, x, p, k, m, api.ErrArg)
			}
		}
	}
}

// k and m at the ends of int: every call answers.
func TestEnds(t *testing.T) {
	least, most := math.MinInt, math.MaxInt
	ends := []int{least, least + 1, least + 4, most, most - 1, most - 2, -1, 0, 1, 1 << 20, 1<<20 + 1, 3 - 1<<20, -1 << 32, 1 << 32, least / 2, most/2 + 1, most / 8, most/8 + 1}
	p := drives(t, 12, 9)
	was := seen(p)
	for _, k := range ends {
		for _, m := range ends {
			if k == 1 && m <= 1 && m >= 0 {
				continue
			}
			x := put(t, "a")
			want := api.OK
			if k >= 1 && k <= 1<<20 && (k+m < 0 || k+m > 12) {
				want = api.ErrTooFew
			}
			if e := x.Plan(k, m, k, in(12), m); e != want {
				t.Errorf("Plan(%d, %d, ..) = %d, want %d", k, m, e, want)
			}
			if o := x.Object(); (o.Key == "key") != (want == api.OK) {
				t.Errorf("%d, %d: Object() = %v", k, m, o)
			}
			x.Next(p, k, m)
			// Others than the plan's store nothing.
			y := planned(t, 2, 1, "a", 3)
			holdStays(t, y, p, k, m, api.ErrArg)
		}
	}
	holdSeen(t, p, was)
}

// Other k and m than the plan's store no shard that is not of the plan.
func TestOtherCode(t *testing.T) {
	p := drives(t, 9, 9)
	x := planned(t, 2, 2, text, 9)
	for n := range 24 {
		was := seen(p)
		eachCode(func(k, m int) {
			if k != 2 || m != 2 {
				holdNext(t, x, p, k, m, false, api.ErrArg)
			}
		})
		holdSeen(t, p, was)
		holdNext(t, x, p, 2, 2, false, api.OK)
		if n == 23 {
			holdDone(t, x, p, 2, 2, 24)
		}
	}
	holdReady(t, x, p, 2, 2)
}

// Others do theirs between: two Puts of one key, step by step.
func TestTwoTasks(t *testing.T) {
	p := drives(t, 5, 9)
	x, y := put(t, text[:40]), put(t, text[40:])
	holdPlan(t, x, 2, 1, 1, in(5), 1, api.OK)
	holdPlan(t, y, 2, 1, 2, in(5), 1, api.OK)
	for range 18 {
		holdNext(t, x, p, 2, 1, false, api.OK)
		holdNext(t, y, p, 2, 1, false, api.OK)
	}
	holdReady(t, x, p, 2, 1)
	holdDone(t, y, p, 2, 1, 6)
	holdReady(t, y, p, 2, 1)
	for n, task := range []*Task{x, y} {
		var parts [][]byte
		for _, s := range task.Object().Stripes {
			b, _ := shard.Read(p, 2, 1, s)
			parts = append(parts, b)
		}
		if b, _ := stripe.Join(parts, task.Object().Size); string(b) != []string{text[:40], text[40:]}[n] {
			t.Errorf("%d: %q", n, b)
		}
	}
}

// A Put's object goes into the table as it is, and is at its targets there.
func TestWithTable(t *testing.T) {
	there, p := table.New(2, 1), drives(t, 12, 9)
	if e := there.Apply(api.Rec{Kind: api.RecPool, ID: 1, Drives: in(12)}); e != api.OK {
		t.Fatalf("Apply = %d", e)
	}
	x := put(t, text)
	was := there.All()
	holdPlan(t, x, 2, 1, there.Last()+1, there.States(), there.Epoch(), api.OK)
	holdDone(t, x, p, 2, 1, 36)
	holdReady(t, x, p, 2, 1)
	if !rec.Same(there.All(), was) {
		t.Errorf("the table is another: %v, was %v", there.All(), was)
	}
	if n, id, pos, ok := plan.Stray(p, there, x.Object().Stripes); ok {
		t.Errorf("Stray = %d, %d, %d", n, id, pos)
	}
	o := x.Object()
	if e := there.Apply(api.Rec{Kind: api.RecPut, Key: o.Key, ID: o.ID, Size: o.Size, Stripes: o.Stripes}); e != api.OK {
		t.Fatalf("Apply(%v) = %d", o, e)
	}
	if list := plan.Wrong(there, 3); len(list) != 0 {
		t.Errorf("Wrong: %v", list)
	}
	if n, id, pos, ok := plan.Stray(p, there, nil); ok {
		t.Errorf("Stray = %d, %d, %d", n, id, pos)
	}
}
