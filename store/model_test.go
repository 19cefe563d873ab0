package store

import (
	"fmt"
	"slices"
	"testing"

	"flitting/api"
	"flitting/hash"
	"flitting/pool"
	"flitting/rs"
	"flitting/tape"
	"flitting/wal"
)

// seeded is a row of numbers that follow a rule.
type seeded uint64

// below is the next number of the row, from 0 to below n.
func (s *seeded) below(n int) int {
	*s = *s*6364136223846793005 + 1442695040888963407
	return int(uint64(*s) >> 33 % uint64(n))
}

// thing is one thing to be done.
type thing func() api.Errno

// job is a client's call: things that are to be done yet, the version of a Put, the stripes that a Get is to read yet, and what it has read.
type job struct {
	x       api.Step
	version int
	stripes []api.Stripe
	left    []thing
	wants   []int
	size    int
	got     []byte
}

// trip is a stripe on its way.
type trip struct {
	from   api.Stripe
	target []int
	left   []thing
}

// model is a store told another way: what there is stands in lists, and all that is under way is a row of things, of which those that are done are taken off its front.
type model struct {
	k, m        int
	p           *pool.Pool
	two         *tape.Tape
	log         *wal.Log
	objects     []api.Object
	states      []int
	epoch, last int
	jobs        [api.MaxTasks]*job
	trip        *trip
	parked      []int
	dead        bool
}

func newModel(k, m int, drives []int) *model {
	o := &model{k: k, m: m, p: pool.New(), two: tape.New()}
	o.log, _, _ = wal.Open(o.two)
	for _, slots := range drives {
		o.p.Add(slots)
	}
	o.commit(api.Rec{Kind: api.RecPool, ID: 1, Drives: in(len(drives))})
	return o
}

// all is the record of all that there is.
func (o *model) all() api.Rec {
	slices.SortFunc(o.objects, func(a, b api.Object) int { return slices.Compare([]byte(a.Key), []byte(b.Key)) })
	return api.Rec{Kind: api.RecAll, ID: o.last, Size: o.epoch, Drives: o.states, Objects: o.objects}
}

func (o *model) find(key string) int {
	return slices.IndexFunc(o.objects, func(each api.Object) bool { return each.Key == key })
}

// take has a record be so; it is one that can be.
func (o *model) take(r api.Rec) {
	switch r.Kind {
	case api.RecPut, api.RecDel:
		if at := o.find(r.Key); at >= 0 {
			o.objects = slices.Delete(o.objects, at, at+1)
		}
		if r.Kind == api.RecPut {
			o.objects = append(o.objects, api.Object{Key: r.Key, ID: r.ID, Size: r.Size, Stripes: r.Stripes})
		}
		o.last = max(o.last, r.ID)
	case api.RecMove:
		for _, each := range o.objects {
			for n, s := range each.Stripes {
				if s.ID == r.Stripes[0].ID {
					each.Stripes[n] = r.Stripes[0]
				}
			}
		}
	case api.RecPool:
		o.epoch, o.states = r.ID, r.Drives
	case api.RecAll:
		o.objects, o.last, o.epoch, o.states = r.Objects, r.ID, r.Size, r.Drives
	}
}

func (o *model) commit(r api.Rec) api.Errno {
	e := o.log.Append(r)
	if e == api.ErrFull {
		if e = o.log.Checkpoint(o.all()); e == api.OK {
			e = o.log.Append(r)
		}
	}
	if e == api.OK {
		o.take(r)
	}
	return e
}

// nearest is the drives of a stripe, each the one of the greatest weight that is left; none, if too few are In.
func (o *model) nearest(id int) []int {
	var locs []int
	for range o.k + o.m {
		best := -1
		for n, state := range o.states {
			if state == api.In && !slices.Contains(locs, n) && (best < 0 || hash.Weight(id, n) > hash.Weight(id, best)) {
				best = n
			}
		}
		if best < 0 {
			return nil
		}
		locs = append(locs, best)
	}
	return locs
}

// stripes is those of all objects, by their IDs.
func (o *model) stripes() []api.Stripe {
	var list []api.Stripe
	for _, each := range o.objects {
		list = append(list, each.Stripes...)
	}
	slices.SortFunc(list, func(a, b api.Stripe) int { return a.ID - b.ID })
	return list
}

func (o *model) stripe(id int) (api.Stripe, bool) {
	for _, s := range o.stripes() {
		if s.ID == id {
			return s, true
		}
	}
	return api.Stripe{}, false
}

// shards is what can be Loaded of a stripe.
func (o *model) shards(s api.Stripe) [][]byte {
	list := make([][]byte, len(s.Locs))
	for pos, n := range s.Locs {
		if b, e := o.p.Load(n, s.ID, pos); e == api.OK && len(b) == 8 {
			list[pos] = b
		}
	}
	return list
}

// putThings is all that a Put does ahead of its commit.
func (o *model) putThings(j *job) {
	var stores, flushes []thing
	for n, s := range j.stripes {
		part := make([]byte, 8*o.k)
		copy(part, j.x.Data[n*8*o.k:])
		shards, _ := rs.Encode(o.k, o.m, part)
		for pos, drive := range s.Locs {
			stores = append(stores, func() api.Errno { return o.p.Store(drive, s.ID, pos, shards[pos]) })
			flushes = append(flushes, func() api.Errno { return o.p.Flush(drive) })
		}
	}
	j.left = append(stores, flushes...)
}

// moveThings is all that a move does ahead of its commit.
func (o *model) moveThings(w *trip) {
	var stores, flushes, checks []thing
	for pos, drive := range w.target {
		if w.from.Locs[pos] == drive {
			continue
		}
		stores = append(stores, func() api.Errno {
			b, e := rs.Rebuild(o.k, o.m, o.shards(w.from), pos)
			if e != api.OK {
				return e
			}
			return o.p.Store(drive, w.from.ID, pos, b)
		})
		flushes = append(flushes, func() api.Errno { return o.p.Flush(drive) })
		checks = append(checks, func() api.Errno {
			had, e := o.p.Load(drive, w.from.ID, pos)
			if e != api.OK {
				return e
			}
			b, e := rs.Rebuild(o.k, o.m, o.shards(w.from), pos)
			if e == api.OK && string(b) != string(had) {
				e = api.ErrCorrupt
			}
			return e
		})
	}
	w.left = slices.Concat(stores, flushes, checks)
}

// do does a step.
func (o *model) do(x api.Step) api.Answer {
	if x.Kind < 1 || x.Kind > 9 {
		return api.Answer{E: api.ErrArg}
	}
	if o.dead && x.Kind < api.StepLose {
		return api.Answer{E: api.ErrDown}
	}
	var a api.Answer
	switch x.Kind {
	case api.StepCall:
		a = o.call(x)
	case api.StepRun:
		a = o.run(x.A)
	case api.StepMove:
		a.E = o.move()
	case api.StepFuse:
		o.p.Fuse(x.A)
		o.two.Fuse(x.A)
	case api.StepCrash:
		a.E = o.crash(x)
	default:
		a.E = o.change(x)
		if a.E == api.OK {
			o.parked = nil
		}
	}
	if a.E == api.ErrDown {
		o.dead = true
	}
	return a
}

func (o *model) call(x api.Step) api.Answer {
	switch {
	case x.A < 1 || x.A > 4:
		return api.Answer{E: api.ErrArg}
	case x.A != api.List && (len(x.Key) < 1 || len(x.Key) > 16):
		return api.Answer{E: api.ErrBadKey}
	case x.A == api.Put && len(x.Data) > 96:
		return api.Answer{E: api.ErrTooLarge}
	}
	free := slices.Index(o.jobs[:], nil)
	if free < 0 {
		return api.Answer{E: api.ErrBusy}
	}
	version := o.last
	for _, j := range o.jobs {
		if j == nil {
			continue
		}
		if j.x.Key == x.Key && j.x.A%2 == 1 && x.A%2 == 1 {
			return api.Answer{E: api.ErrBusy}
		}
		version = max(version, j.version)
	}
	j := &job{x: x}
	if x.A == api.Put {
		if o.last >= 1<<25-6 {
			return api.Answer{E: api.ErrArg}
		}
		j.version = version + 1
		for n := 0; n*8*o.k < len(x.Data); n++ {
			locs := o.nearest(16*j.version + n)
			if locs == nil {
				return api.Answer{E: api.ErrTooFew}
			}
			j.stripes = append(j.stripes, api.Stripe{ID: 16*j.version + n, Epoch: o.epoch, Locs: locs})
		}
		o.putThings(j)
	}
	o.jobs[free] = j
	return api.Answer{Task: free}
}

func (o *model) run(n int) api.Answer {
	if n < 0 || n > 5 || o.jobs[n] == nil {
		return api.Answer{E: api.ErrNone}
	}
	a := o.goOn(o.jobs[n])
	a.Task = n
	if a.Done {
		o.jobs[n] = nil
	}
	return a
}

// changed is the end of a job that commits a record.
func (o *model) changed(r api.Rec) api.Answer {
	if e := o.commit(r); e != api.OK {
		return api.Answer{E: e, Done: true}
	}
	return api.Answer{Mark: api.Changed, Done: true}
}

func (o *model) goOn(j *job) api.Answer {
	at := o.find(j.x.Key)
	switch j.x.A {
	case api.Put:
		if len(j.left) > 0 {
			e := j.left[0]()
			if e == api.OK {
				j.left = j.left[1:]
			}
			return api.Answer{E: e, Done: e != api.OK && e != api.ErrDown}
		}
		return o.changed(api.Rec{Kind: api.RecPut, ID: j.version, Size: len(j.x.Data), Key: j.x.Key, Stripes: j.stripes})
	case api.Del:
		if at < 0 {
			return api.Answer{E: api.ErrNone, Mark: api.Looked, Done: true}
		}
		version := o.last
		for _, other := range o.jobs {
			if other != nil {
				version = max(version, other.version)
			}
		}
		return o.changed(api.Rec{Kind: api.RecDel, ID: min(version+1, 1<<25), Key: j.x.Key})
	case api.List:
		a := api.Answer{Mark: api.Looked, Done: true}
		for _, each := range o.all().Objects {
			a.Keys = append(a.Keys, each.Key)
		}
		return a
	}
	if len(j.wants) > 0 {
		if s, ok := o.stripe(j.wants[0]); ok {
			part, e := rs.Decode(o.k, o.m, o.shards(s))
			if e != api.OK {
				return api.Answer{E: api.ErrLost, Done: true}
			}
			j.got, j.wants = append(j.got, part...), j.wants[1:]
			if len(j.wants) == 0 {
				return api.Answer{Data: j.got[:j.size], Done: true}
			}
			return api.Answer{}
		}
	}
	if at < 0 {
		return api.Answer{E: api.ErrNone, Mark: api.Looked, Done: true}
	}
	j.got, j.wants, j.size = nil, nil, o.objects[at].Size
	for _, s := range o.objects[at].Stripes {
		j.wants = append(j.wants, s.ID)
	}
	return api.Answer{Mark: api.Looked, Done: j.size == 0}
}

// change is a change of the drives.
func (o *model) change(x api.Step) api.Errno {
	if x.Kind == api.StepLose {
		if x.A < 0 || x.A >= o.p.Len() || o.p.Drive(x.A).Lost() {
			return api.ErrNone
		}
		o.p.Drive(x.A).Lose()
		return api.OK
	}
	// Of each drive there is a state, and of some that there are not.
	next := append(slices.Clone(o.states), make([]int, max(o.p.Len()-len(o.states), 0))...)
	state, known := api.Gone, x.A >= 0 && x.A < len(next)
	if known {
		state = next[x.A]
	}
	switch {
	case x.Kind == api.StepAdd:
		if len(next) == 12 {
			return api.ErrFull
		}
		o.p.Add(x.A)
		next = append(next, api.In)
	case x.Kind == api.StepDrain && state != api.In:
		return api.ErrNone
	case x.Kind == api.StepDrain:
		next[x.A] = api.Draining
		in := slices.DeleteFunc(slices.Clone(next), func(state int) bool { return state != api.In })
		if len(in) < o.k+o.m {
			return api.ErrTooFew
		}
	case state == api.In:
		return api.ErrNotDrained
	case state == api.Gone:
		return api.ErrNone
	default:
		if o.has(x.A) {
			return api.ErrNotDrained
		}
		next[x.A] = api.Gone
	}
	return o.commit(api.Rec{Kind: api.RecPool, ID: o.epoch + 1, Drives: next})
}

// has tells whether a drive is one that something counts on.
func (o *model) has(n int) bool {
	all := o.stripes()
	for _, j := range o.jobs {
		if j != nil {
			all = append(all, j.stripes...)
		}
	}
	if o.trip != nil {
		all = append(all, o.trip.from, api.Stripe{Locs: o.trip.target})
	}
	for _, s := range all {
		if slices.Contains(s.Locs, n) {
			return true
		}
	}
	return false
}

// wrong is the first stripe that is to be moved, and is not parked.
func (o *model) wrong() (api.Stripe, bool) {
	for _, s := range o.stripes() {
		target := o.nearest(s.ID)
		if target != nil && !slices.Equal(target, s.Locs) && !slices.Contains(o.parked, s.ID) {
			return s, true
		}
	}
	return api.Stripe{}, false
}

// stray is the first shard that is at no stripe's place.
func (o *model) stray() (n, id, pos int, ok bool) {
	all := o.stripes()
	for _, j := range o.jobs {
		if j != nil {
			all = append(all, j.stripes...)
		}
	}
	for n := range o.p.Len() {
		for _, held := range o.p.Held(n) {
			at := func(s api.Stripe) bool {
				return s.ID == held[0] && held[1] < len(s.Locs) && s.Locs[held[1]] == n
			}
			if !slices.ContainsFunc(all, at) {
				return n, held[0], held[1], true
			}
		}
	}
	return 0, 0, 0, false
}

func (o *model) move() api.Errno {
	if w := o.trip; w != nil {
		if _, ok := o.stripe(w.from.ID); !ok || !slices.Equal(o.nearest(w.from.ID), w.target) {
			o.trip = nil
			return api.OK
		}
		if len(w.left) == 0 {
			e := o.commit(api.Rec{Kind: api.RecMove, Stripes: []api.Stripe{{ID: w.from.ID, Epoch: o.epoch, Locs: w.target}}})
			if e == api.OK {
				o.trip = nil
			}
			return e
		}
		e := w.left[0]()
		if e == api.OK {
			w.left = w.left[1:]
		} else if e != api.ErrDown {
			o.parked, o.trip = append(o.parked, w.from.ID), nil
		}
		return e
	}
	if s, ok := o.wrong(); ok {
		o.trip = &trip{from: s, target: o.nearest(s.ID)}
		o.moveThings(o.trip)
		return api.OK
	}
	n, id, pos, ok := o.stray()
	if !ok {
		return api.OK
	}
	if e := o.p.Erase(n, id, pos); e != api.OK {
		return e
	}
	return o.p.Flush(n)
}

func (o *model) crash(x api.Step) api.Errno {
	o.p.Crash(x.Keep)
	o.two.Crash(x.A)
	o.jobs, o.trip, o.parked, o.dead = [api.MaxTasks]*job{}, nil, nil, true
	log, list, e := wal.Open(o.two)
	if e != api.OK {
		return e
	}
	o.log, o.objects, o.states, o.epoch, o.last, o.dead = log, nil, nil, 0, 0, false
	for _, r := range list {
		o.take(r)
	}
	return api.OK
}

// seen is all that there is to be seen, as that of a store.
func (o *model) seen() []string {
	var tasks []int
	for n, j := range o.jobs {
		if j != nil {
			tasks = append(tasks, n)
		}
	}
	parked := slices.Sorted(slices.Values(o.parked))
	_, wrong := o.wrong()
	_, _, _, stray := o.stray()
	list := []string{fmt.Sprint(o.all()), fmt.Sprint(tasks, parked, len(tasks) == 0 && o.trip == nil && !wrong && !stray)}
	return append(list, bare(o.p, o.two)...)
}

// any is a step of any kind; most are such as there is something to do for.
func (s *seeded) any() api.Step {
	switch n := s.below(500); {
	case n < 100:
		return s.anyCall()
	case n < 300:
		return step(api.StepRun, s.below(api.MaxTasks+1-n%2))
	case n < 478:
		return step(api.StepMove, n)
	case n < 482:
		return step(api.StepAdd, s.below(20))
	case n < 488:
		return step(api.StepDrain, s.below(13))
	case n < 492:
		return step(api.StepRemove, s.below(13))
	case n < 493:
		return step(api.StepLose, s.below(13))
	case n < 495:
		return crash(s.below(60), uint64(s.below(1<<30))<<34|uint64(s.below(1<<30)))
	case n < 498:
		return step(api.StepFuse, s.below(60))
	}
	return step(s.below(12), s.below(6)-1)
}

// anyCall is a Call; most are of few keys, and of no great data.
func (s *seeded) anyCall() api.Step {
	ops := []int{api.Put, api.Put, api.Put, api.Get, api.Get, api.Get, api.Del, api.Del, api.List}
	x := call(ops[s.below(len(ops))], string(rune('a'+s.below(5))), text[s.below(5):][:s.below(60)])
	switch s.below(60) {
	case 0:
		x.Data = []byte(text + text)
	case 1:
		x.Key = ""
	case 2:
		x.Data = nil
	}
	return x
}

// calm has nothing be lost, and no power go; what is put is short, so that many Puts come to their ends.
func calm(x api.Step) api.Step {
	if x.Kind >= api.StepLose {
		return step(api.StepMove, 0)
	}
	x.Data = x.Data[:len(x.Data)/6]
	return x
}

// Long rows of steps of all kinds, against a model told another way: all that is answered, and all that is to be seen, is the same.
func TestLongRows(t *testing.T) {
	t.Parallel()
	count := map[[2]int]int{}
	s := seeded(1)
	checkpoints := 0
	for row := range 60 {
		k, m := 1+s.below(3), s.below(3)
		drives := make([]int, k+m+s.below(4))
		for n := range drives {
			drives[n] = 5 + s.below(25)
		}
		x, o := made(t, k, m, drives), newModel(k, m, drives)
		steps := 400 + row%5*400
		if row%12 == 0 {
			steps = 15000
		}
		for n := range steps {
			each := s.any()
			if row%3 == 0 {
				each = calm(each)
			}
			got, want := x.Do(each), o.do(each)
			if !same(got, want) {
				t.Fatalf("step %d: Do(%+v) = %+v, want %+v", n, each, got, want)
			}
			count[[2]int{each.Kind, int(got.E)}]++
			if n%17 > 0 {
				continue
			}
			if now, want := seen(x), o.seen(); !slices.Equal(now, want) {
				t.Fatalf("step %d: behind %+v there is %q, want %q", n, each, now, want)
			}
		}
		b, _ := x.Tape().Read(0)
		if list, _ := wal.Scan(b); len(list) > 0 && list[0].Kind == api.RecAll {
			checkpoints++
		}
	}
	if checkpoints < 2 {
		t.Errorf("%d logs were made anew", checkpoints)
	}
	for _, often := range [][2]int{
		{api.StepCall, int(api.OK)}, {api.StepCall, int(api.ErrBusy)}, {api.StepCall, int(api.ErrDown)}, {api.StepRun, int(api.OK)}, {api.StepRun, int(api.ErrNone)}, {api.StepRun, int(api.ErrDown)},
		{api.StepRun, int(api.ErrFull)}, {api.StepRun, int(api.ErrLost)}, {api.StepMove, int(api.OK)}, {api.StepMove, int(api.ErrFull)}, {api.StepMove, int(api.ErrLost)}, {api.StepMove, int(api.ErrDown)},
		{api.StepAdd, int(api.OK)}, {api.StepDrain, int(api.OK)}, {api.StepDrain, int(api.ErrTooFew)}, {api.StepRemove, int(api.OK)}, {api.StepRemove, int(api.ErrNotDrained)}, {api.StepLose, int(api.OK)}, {api.StepCrash, int(api.OK)},
	} {
		if count[often] < 10 {
			t.Errorf("steps of kind %d answered %d %d times only", often[0], often[1], count[often])
		}
	}
}
