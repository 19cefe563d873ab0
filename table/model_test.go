package table

import (
	"math"
	"math/bits"
	"slices"
	"sort"
	"testing"

	"flitting/api"
	"flitting/rec"
)

// The model tells another way than the program what there is: objects in a list, in the order in which they came; and what is right it builds anew, and holds what it was given against that.
type model struct {
	k, m        int
	last, epoch int
	states      []int
	list        []api.Object
}

func hold(ok bool) {
	if !ok {
		panic("no record of this state")
	}
}

// modelOf is the model of New(k, m).
func modelOf(k, m int) *model {
	ends := func(n, least, most int) int {
		switch {
		case n < least:
			return least
		case n > most:
			return most
		}
		return n
	}
	return &model{k: ends(k, 1, 4), m: ends(m, 0, 3)}
}

func copyOfStripes(list []api.Stripe) []api.Stripe {
	var all []api.Stripe
	for _, s := range list {
		all = append(all, api.Stripe{ID: s.ID, Epoch: s.Epoch, Locs: append([]int(nil), s.Locs...)})
	}
	return all
}

func copyOf(o api.Object) api.Object {
	return api.Object{Key: o.Key, ID: o.ID, Size: o.Size, Stripes: copyOfStripes(o.Stripes)}
}

func copyOfRec(r api.Rec) api.Rec {
	r.Stripes, r.Drives = copyOfStripes(r.Stripes), append([]int(nil), r.Drives...)
	var objects []api.Object
	for _, o := range r.Objects {
		objects = append(objects, copyOf(o))
	}
	r.Objects = objects
	return r
}

// holdStripe holds that s is right: its Locs, as bits, are as many as there are shards.
func (x *model) holdStripe(s api.Stripe) {
	hold(s.Epoch >= 0 && s.Epoch <= 1<<30)
	hold(len(s.Locs) == x.k+x.m)
	var all uint64
	for _, drive := range s.Locs {
		hold(drive >= 0 && drive <= 11)
		all |= 1 << drive
	}
	hold(bits.OnesCount64(all) == x.k+x.m)
}

// holdObject holds that o is right: bytes are taken off its size, stripe by stripe.
func (x *model) holdObject(o api.Object) {
	hold(o.Key != "" && len(o.Key) < 17)
	hold(o.ID > 0 && o.ID <= 33554432)
	hold(o.Size >= 0 && o.Size < 97)
	n := 0
	for left := o.Size; left > 0; left -= 8 * x.k {
		hold(n < len(o.Stripes) && o.Stripes[n].ID == o.ID<<4|n)
		x.holdStripe(o.Stripes[n])
		n++
	}
	hold(n == len(o.Stripes))
}

func holdDrives(states []int) {
	hold(len(states) < 13)
	for _, state := range states {
		hold(state == 0 || state == 1 || state == 2)
	}
}

// object is where in the list the object of that key is; -1, if it is not.
func (x *model) object(key string) int {
	return slices.IndexFunc(x.list, func(o api.Object) bool { return o.Key == key })
}

// stripe is where in the list the object of that stripe is, and where in that the stripe.
func (x *model) stripe(id int) (int, int) {
	for at, o := range x.list {
		for n, s := range o.Stripes {
			if s.ID == id {
				return at, n
			}
		}
	}
	return -1, -1
}

func (x *model) used(id int) {
	if id > x.last {
		x.last = id
	}
}

func (x *model) put(o api.Object) {
	x.holdObject(o)
	for _, other := range x.list {
		hold(other.ID != o.ID)
	}
	if at := x.object(o.Key); at >= 0 {
		x.list = slices.Delete(slices.Clone(x.list), at, at+1)
	}
	x.list = append(slices.Clone(x.list), copyOf(o))
	x.used(o.ID)
}

func (x *model) del(key string, id int) {
	at := x.object(key)
	hold(at >= 0 && id > 0 && id <= 33554432)
	x.list = slices.Delete(slices.Clone(x.list), at, at+1)
	x.used(id)
}

func (x *model) move(list []api.Stripe) {
	hold(len(list) == 1)
	at, n := x.stripe(list[0].ID)
	hold(at >= 0)
	x.holdStripe(list[0])
	x.list = slices.Clone(x.list)
	x.list[at] = copyOf(x.list[at])
	x.list[at].Stripes[n] = copyOfStripes(list)[0]
}

func (x *model) pool(id int, states []int) {
	holdDrives(states)
	hold(id == x.epoch+1 && id <= 1<<30 && len(states) >= len(x.states))
	x.epoch, x.states = id, append([]int(nil), states...)
}

func (x *model) all(r api.Rec) {
	holdDrives(r.Drives)
	hold(r.ID >= 0 && r.ID <= 33554432 && r.Size >= 0 && r.Size <= 1<<30)
	x.list, x.last, x.epoch = nil, r.ID, r.Size
	x.states = append([]int(nil), r.Drives...)
	last := ""
	for _, o := range r.Objects {
		hold(o.Key > last && o.ID <= r.ID)
		last = o.Key
		x.put(o)
	}
}

// apply does what r tells; what can not be leaves all as it was.
func (x *model) apply(r api.Rec) (e api.Errno) {
	was := *x
	defer func() {
		if recover() != nil {
			*x, e = was, 2
		}
	}()
	switch r.Kind {
	default:
		hold(false)
	case 1:
		x.put(api.Object{Key: r.Key, ID: r.ID, Size: r.Size, Stripes: r.Stripes})
	case 2:
		x.del(r.Key, r.ID)
	case 3:
		x.move(r.Stripes)
	case 4:
		x.pool(r.ID, r.Drives)
	case 5:
		x.all(r)
	}
	return 0
}

// told is what apply would tell of r.
func (x *model) told(r api.Rec) api.Errno {
	other := *x
	return other.apply(r)
}

// record is the RecAll of what there is.
func (x *model) record() api.Rec {
	list := slices.Clone(x.list)
	sort.Slice(list, func(a, b int) bool { return list[a].Key < list[b].Key })
	return api.Rec{Kind: 5, ID: x.last, Size: x.epoch, Objects: list, Drives: x.states}
}

func sameStripe(a, b api.Stripe) bool {
	return sameStripes([]api.Stripe{a}, []api.Stripe{b})
}

func sameStripes(a, b []api.Stripe) bool {
	return rec.Same(api.Rec{Stripes: a}, api.Rec{Stripes: b})
}

func sameObject(a, b api.Object) bool {
	return rec.Same(api.Rec{Objects: []api.Object{a}}, api.Rec{Objects: []api.Object{b}})
}

// holdObjects holds what is told of each object, and that there are no others.
func (x *model) holdObjects(t *testing.T, got *Table) {
	t.Helper()
	var keys []string
	for _, o := range x.record().Objects {
		keys = append(keys, o.Key)
		if is, ok := got.Object(o.Key); !ok || !sameObject(is, o) {
			t.Errorf("Object(%q) = %v, %v, want %v", o.Key, is, ok, o)
		}
	}
	if is := got.Keys(); !slices.Equal(is, keys) {
		t.Errorf("Keys = %q, want %q", is, keys)
	}
	for _, key := range append(someKeys(), "", "nobody's", "nobody's, and too long") {
		if is, ok := got.Object(key); ok != (x.object(key) >= 0) || !ok && !sameObject(is, api.Object{}) {
			t.Errorf("Object(%q) = %v, %v", key, is, ok)
		}
	}
}

// holdStripes holds what is told of each stripe, and that there are no others: of each object's IDs all that it could have, and of both that are next to it.
func (x *model) holdStripes(t *testing.T, got *Table) {
	t.Helper()
	var all []api.Stripe
	ids := []int{math.MinInt64, -17, -16, -15, -1, 0, 1, 15, 16, 17, 1 << 29, 1 << 32, math.MaxInt64}
	for _, o := range x.list {
		all = append(all, o.Stripes...)
		for n := -16; n < 32; n++ {
			ids = append(ids, 16*o.ID+n, -16*o.ID+n)
		}
	}
	sort.Slice(all, func(a, b int) bool { return all[a].ID < all[b].ID })
	if is := got.Stripes(); !sameStripes(is, all) {
		t.Errorf("Stripes = %v, want %v", is, all)
	}
	for _, id := range ids {
		var want api.Stripe
		at, n := x.stripe(id)
		if at >= 0 {
			want = x.list[at].Stripes[n]
		}
		if is, ok := got.Stripe(id); ok != (at >= 0) || !sameStripe(is, want) {
			t.Errorf("Stripe(%d) = %v, %v, want %v", id, is, ok, want)
		}
	}
}

// hold holds all that a table tells against the model.
func (x *model) hold(t *testing.T, got *Table) {
	t.Helper()
	x.holdObjects(t, got)
	x.holdStripes(t, got)
	if is := got.States(); !slices.Equal(is, x.states) {
		t.Errorf("States = %v, want %v", is, x.states)
	}
	if is := got.Epoch(); is != x.epoch {
		t.Errorf("Epoch = %d, want %d", is, x.epoch)
	}
	if is := got.Last(); is != x.last {
		t.Errorf("Last = %d, want %d", is, x.last)
	}
	if is, want := got.All(), x.record(); !rec.Same(is, want) {
		t.Errorf("All = %v, want %v", is, want)
	}
}

// seeded is a row of numbers that follow a rule.
type seeded uint64

// below goes on, and is a number below n.
func (s *seeded) below(n int) int {
	*s = *s*6364136223846793005 + 1442695040888963407
	return int(uint64(*s) >> 33 % uint64(n))
}

// anyOf is one of a list.
func anyOf[T any](s *seeded, list []T) T {
	return list[s.below(len(list))]
}

// someKeys are keys whose order is told by their bytes alone.
func someKeys() []string {
	return []string{"\x00", "\x00\x00", "B", "a", "aa", "a\x00", "b", "0123456789abcdef", "\x7f", "\x80", "ä", "\xff", "\xff\xff"}
}

// locs is so many unlike drives.
func (s *seeded) locs(count int) []int {
	list := []int{0, 1, 2, 3, 4, 5, 6, 7, 8, 9, 10, 11}
	for at := range list {
		other := at + s.below(len(list)-at)
		list[at], list[other] = list[other], list[at]
	}
	return list[:count]
}

// object is one that is right.
func (s *seeded) object(k, m int, key string, id int) api.Object {
	o := api.Object{Key: key, ID: id, Size: anyOf(s, []int{0, 1, 8 * k, 8*k + 1, 95, 96, s.below(97), s.below(97)})}
	for n := 0; 8*k*n < o.Size; n++ {
		epoch := anyOf(s, []int{0, 1, 1 << 30, s.below(1 << 30)})
		o.Stripes = append(o.Stripes, api.Stripe{ID: 16*id + n, Epoch: epoch, Locs: s.locs(k + m)})
	}
	return o
}

// states is of how many drives, and their states.
func (s *seeded) states(least int) []int {
	list := make([]int, least+s.below(13-least))
	for n := range list {
		list[n] = s.below(3)
	}
	return list
}

// id is one that an object may have: an end, one that is had, or was, or a new one.
func (s *seeded) id(x *model) int {
	list := []int{1, 1 << 25, x.last, x.last + 1, x.last + 1, x.last + 1, x.last + 2, 1 + s.below(40)}
	for _, o := range x.list {
		list = append(list, o.ID)
	}
	return min(max(anyOf(s, list), 1), 1<<25)
}

// whole is a RecAll that is right.
func (s *seeded) whole(k, m int) api.Rec {
	r := api.Rec{Kind: api.RecAll, ID: 40 + s.below(20), Size: anyOf(s, []int{0, 1, s.below(1 << 30), 1<<30 - 2, 1<<30 - 1, 1 << 30}), Drives: s.states(0)}
	keys := someKeys()
	sort.Strings(keys)
	for n, key := range keys {
		if s.below(2) == 0 {
			r.Objects = append(r.Objects, s.object(k, m, key, 1+(n*7+r.ID)%40))
		}
	}
	return r
}

// rec is a record that mostly can be.
func (s *seeded) rec(x *model) api.Rec {
	kind := anyOf(s, []int{1, 1, 1, 1, 1, 2, 2, 3, 3, 3, 3, 4, 4, 5})
	switch kind {
	case api.RecPut:
		o := s.object(x.k, x.m, anyOf(s, someKeys()), s.id(x))
		return api.Rec{Kind: kind, Key: o.Key, ID: o.ID, Size: o.Size, Stripes: o.Stripes}
	case api.RecDel:
		return api.Rec{Kind: kind, Key: anyOf(s, someKeys()), ID: s.id(x)}
	case api.RecMove:
		o := s.object(x.k, x.m, "", s.id(x))
		if len(o.Stripes) == 0 {
			return api.Rec{Kind: kind}
		}
		return api.Rec{Kind: kind, Stripes: []api.Stripe{anyOf(s, o.Stripes)}}
	case api.RecPool:
		return api.Rec{Kind: kind, ID: x.epoch + 1, Drives: s.states(len(x.states))}
	}
	if s.below(2) == 0 {
		return x.record()
	}
	return s.whole(x.k, x.m)
}

// numbersIn are all numbers of r.
func numbersIn(r *api.Rec) []*int {
	list := []*int{&r.Kind, &r.ID, &r.Size}
	ints := func(of []int) {
		for n := range of {
			list = append(list, &of[n])
		}
	}
	stripes := func(of []api.Stripe) {
		for n := range of {
			list = append(list, &of[n].ID, &of[n].Epoch)
			ints(of[n].Locs)
		}
	}
	stripes(r.Stripes)
	for n := range r.Objects {
		list = append(list, &r.Objects[n].ID, &r.Objects[n].Size)
		stripes(r.Objects[n].Stripes)
	}
	ints(r.Drives)
	return list
}

// cut takes one of a list away, or puts one of it there twice, or two of it in each other's place.
func cut[T any](s *seeded, list []T) []T {
	if len(list) == 0 {
		return list
	}
	list = slices.Clone(list)
	at, other := s.below(len(list)), s.below(len(list))
	switch s.below(3) {
	case 0:
		return slices.Delete(list, at, at+1)
	case 1:
		return slices.Insert(list, other, list[at])
	}
	list[at], list[other] = list[other], list[at]
	return list
}

// wrongs are numbers that come in the place of n.
func wrongs(n int) []int {
	return []int{n - 1, n + 1, -n, -1, 0, 1, 2, 3, 12, 16, 97, 1<<25 + 1, 1<<30 + 1, n + 1<<32, math.MinInt64, math.MaxInt64, n ^ 1<<62}
}

// spoil changes one thing of r, in memory of its own.
func (s *seeded) spoil(r api.Rec) api.Rec {
	r = copyOfRec(r)
	switch s.below(8) {
	case 0:
		r.Stripes = cut(s, r.Stripes)
	case 1:
		r.Objects = cut(s, r.Objects)
	case 2:
		r.Drives = cut(s, r.Drives)
	case 3:
		if len(r.Stripes) > 0 {
			r.Stripes[0].Locs = cut(s, r.Stripes[0].Locs)
		}
	case 4:
		if len(r.Objects) > 0 {
			at := s.below(len(r.Objects))
			r.Objects[at].Stripes = cut(s, r.Objects[at].Stripes)
		}
	case 5:
		r.Key = anyOf(s, []string{"", "0123456789abcdefg", r.Key + "x"})
		if len(r.Objects) > 0 {
			r.Objects[s.below(len(r.Objects))].Key = anyOf(s, append(someKeys(), ""))
		}
	default:
		n := anyOf(s, numbersIn(&r))
		*n = anyOf(s, wrongs(*n))
	}
	return r
}
