package store

import (
	"bytes"
	"fmt"
	"math"
	"reflect"
	"slices"
	"strings"
	"testing"

	"flitting/api"
	"flitting/plan"
	"flitting/pool"
	"flitting/rs"
	"flitting/shard"
	"flitting/slot"
	"flitting/stripe"
	"flitting/table"
	"flitting/tape"
	"flitting/wal"
)

// text is as many bytes as there may be.
const text = "Moving house while people live in it: ninety-six bytes are just what an object may have, no more"

// far is numbers that are no drive's, no task's and no kind's.
func far() []int {
	return []int{math.MinInt64, -1 << 32, -1, 12, 1 << 8, 1 << 30, 1 << 32, math.MaxInt64}
}

// even is so many drives of as many slots.
func even(many, slots int) []int {
	return slices.Repeat([]int{slots}, many)
}

// in is the states of so many drives, all In.
func in(many int) []int {
	return slices.Repeat([]int{api.In}, many)
}

// made is a store that there is.
func made(t *testing.T, k, m int, drives []int) *Store {
	t.Helper()
	s, e := New(k, m, drives)
	if e != api.OK || s == nil {
		t.Fatalf("New(%d, %d, %v) = %v, %d", k, m, drives, s, e)
	}
	return s
}

// eachCode does what is to be done of each k and m that there may be.
func eachCode(do func(k, m int)) {
	for k := 1; k <= api.MaxK; k++ {
		for m := range api.MaxM + 1 {
			do(k, m)
		}
	}
}

// step is a step that has a number alone.
func step(kind, a int) api.Step {
	return api.Step{Kind: kind, A: a}
}

func call(op int, key, data string) api.Step {
	return api.Step{Kind: api.StepCall, A: op, Key: key, Data: []byte(data)}
}

func crash(a int, keep uint64) api.Step {
	return api.Step{Kind: api.StepCrash, A: a, Keep: keep}
}

// same holds two answers against each other; nil and empty lists are the same.
func same(a, b api.Answer) bool {
	return a.E == b.E && a.Task == b.Task && a.Done == b.Done && a.Mark == b.Mark && bytes.Equal(a.Data, b.Data) && slices.Equal(a.Keys, b.Keys)
}

// hold does a step, and holds what it answers.
func hold(t *testing.T, s *Store, x api.Step, want api.Answer) {
	t.Helper()
	if got := s.Do(x); !same(got, want) {
		t.Fatalf("Do(%+v) = %+v, want %+v", x, got, want)
	}
}

// holdE does steps, each of which answers that error and nothing else.
func holdE(t *testing.T, s *Store, e api.Errno, steps ...api.Step) {
	t.Helper()
	for _, x := range steps {
		hold(t, s, x, api.Answer{E: e})
	}
}

// holdOK does steps, each of which answers nothing.
func holdOK(t *testing.T, s *Store, steps ...api.Step) {
	t.Helper()
	holdE(t, s, api.OK, steps...)
}

// began has one task more, of that number.
func began(t *testing.T, s *Store, op int, key, data string, task int) {
	t.Helper()
	hold(t, s, call(op, key, data), api.Answer{Task: task})
}

// goes lets a task go on so often, without an end.
func goes(t *testing.T, s *Store, task, often int) {
	t.Helper()
	for range often {
		hold(t, s, step(api.StepRun, task), api.Answer{Task: task})
	}
}

// ends lets a task go on to its end, and is the last answer.
func ends(t *testing.T, s *Store, task int) api.Answer {
	t.Helper()
	for range 1000 {
		a := s.Do(step(api.StepRun, task))
		if a.Task != task {
			t.Fatalf("Run of %d: %+v", task, a)
		}
		if a.Done {
			return a
		}
		if a.E != api.OK {
			t.Fatalf("Run of %d: %+v", task, a)
		}
	}
	t.Fatalf("task %d has no end", task)
	return api.Answer{}
}

// whole is a call of a client, run to its end.
func whole(t *testing.T, s *Store, op int, key, data string) api.Answer {
	t.Helper()
	a := s.Do(call(op, key, data))
	if a.E != api.OK {
		t.Fatalf("Call of %d, %q: %+v", op, key, a)
	}
	return ends(t, s, a.Task)
}

// holdWhole holds the last answer of a call, run to its end, by the number of its task.
func holdWhole(t *testing.T, s *Store, op int, key, data string, want api.Answer) {
	t.Helper()
	got := whole(t, s, op, key, data)
	want.Task, want.Done = got.Task, true
	if !same(got, want) {
		t.Fatalf("%d of %q: %+v, want %+v", op, key, got, want)
	}
}

func put(t *testing.T, s *Store, key, data string) {
	t.Helper()
	holdWhole(t, s, api.Put, key, data, api.Answer{Mark: api.Changed})
}

func del(t *testing.T, s *Store, key string) {
	t.Helper()
	holdWhole(t, s, api.Del, key, "", api.Answer{Mark: api.Changed})
}

// holdGet holds what a Get answers at its end: of nothing it ends in its first Run.
func holdGet(t *testing.T, s *Store, key, data string) {
	t.Helper()
	want := api.Answer{Data: []byte(data)}
	if data == "" {
		want.Mark = api.Looked
	}
	holdWhole(t, s, api.Get, key, "", want)
}

func holdNone(t *testing.T, s *Store, key string) {
	t.Helper()
	holdWhole(t, s, api.Get, key, "", api.Answer{E: api.ErrNone, Mark: api.Looked})
}

// spread is a store of k, m and so many drives that has the objects a, b, c .. of those data.
func spread(t *testing.T, k, m, many int, data ...string) *Store {
	t.Helper()
	s := made(t, k, m, even(many, api.MaxCap))
	for n, each := range data {
		put(t, s, string(rune('a'+n)), each)
	}
	return s
}

// settle has the migration go on till there is nothing to do, and is how many steps that took.
func settle(t *testing.T, s *Store) int {
	t.Helper()
	for n := range 20000 {
		if s.Idle() {
			return n
		}
		holdOK(t, s, step(api.StepMove, 0))
	}
	t.Fatal("the migration has no end")
	return 0
}

// lasting is the shard that lasts on drive n.
func lasting(s *Store, n, id, pos int) []byte {
	d := s.Pool().Drive(n)
	for at := range d.Cap() {
		b, _ := d.Lasts(at)
		if is, place, b, ok := slot.Open(b); ok && is == id && place == pos {
			return b
		}
	}
	return nil
}

// unsafe tells what is wrong with the stripes that count: nothing, if each has unlike drives, with its shards, to last.
func unsafe(s *Store) string {
	states := s.Table().States()
	for _, each := range s.Table().Stripes() {
		var shards [][]byte
		for pos, n := range each.Locs {
			b := lasting(s, n, each.ID, pos)
			if len(b) != api.ShardLen || states[n] == api.Gone || slices.Contains(each.Locs[:pos], n) {
				return fmt.Sprintf("%+v, states %v, place %d has %v to last", each, states, pos, b)
			}
			shards = append(shards, b)
		}
		data, _ := rs.Decode(s.k, s.m, shards)
		want, _ := rs.Encode(s.k, s.m, data)
		if !reflect.DeepEqual(shards, want) {
			return fmt.Sprintf("%+v has %v, want %v", each, shards, want)
		}
	}
	return ""
}

func holdSafe(t *testing.T, s *Store) {
	t.Helper()
	if wrong := unsafe(s); wrong != "" {
		t.Fatal(wrong)
	}
}

// holdSettled holds that all is where it should be, and nothing else anywhere.
func holdSettled(t *testing.T, s *Store) {
	t.Helper()
	holdSafe(t, s)
	if wrong := plan.Wrong(s.Table(), s.k+s.m); len(wrong) > 0 {
		t.Fatalf("%v are not at their targets", wrong)
	}
	shards := 0
	for _, each := range s.Table().Stripes() {
		shards += len(each.Locs)
	}
	held := 0
	for n := range s.Pool().Len() {
		held += len(s.Pool().Held(n))
	}
	if held != shards {
		t.Fatalf("%d shards are held, want %d", held, shards)
	}
}

// reading is what each key has, read of the drives without a step.
func reading(s *Store) map[string]string {
	all := map[string]string{}
	for _, key := range s.Table().Keys() {
		o, _ := s.Table().Object(key)
		var parts [][]byte
		for _, each := range o.Stripes {
			part, e := shard.Read(s.Pool(), s.k, s.m, each)
			if e != api.OK {
				all[key] = "lost"
			}
			parts = append(parts, part)
		}
		if data, ok := stripe.Join(parts, o.Size); ok {
			all[key] = string(data)
		}
	}
	return all
}

// records is what both sides of the tape have.
func records(t *testing.T, s *Store) []api.Rec {
	t.Helper()
	one, e := s.Tape().Read(0)
	two, f := s.Tape().Read(1)
	list, size := wal.Scan(one)
	if e != api.OK || f != api.OK || !bytes.Equal(one, two) || size != len(one) {
		t.Fatalf("the sides have %v, %d and %v, %d, of which %d bytes are records", one, e, two, f, size)
	}
	return list
}

// holdLast holds the last record of the log.
func holdLast(t *testing.T, s *Store, want api.Rec) {
	t.Helper()
	list := records(t, s)
	if got := list[len(list)-1]; fmt.Sprint(got) != fmt.Sprint(want) {
		t.Fatalf("the last record is %+v, want %+v", got, want)
	}
}

// seen is all that there is to be seen of a store: what there is, what is under way, both sides of the tape, and each drive, slot by slot.
func seen(s *Store) []string {
	list := []string{fmt.Sprint(s.Table().All()), fmt.Sprint(s.Tasks(), s.Parked(), s.Idle())}
	return append(list, bare(s.Pool(), s.Tape())...)
}

// bare is all that there is to be seen of drives and a tape.
func bare(p *pool.Pool, two *tape.Tape) []string {
	var list []string
	for side := range 2 {
		b, e := two.Read(side)
		list = append(list, fmt.Sprint(e), string(b))
	}
	for n := range p.Len() {
		d := p.Drive(n)
		list = append(list, fmt.Sprint(d.Lost(), d.Loose()))
		for at := range d.Cap() {
			now, _ := d.Read(at)
			lasts, _ := d.Lasts(at)
			list = append(list, string(now), string(lasts))
		}
	}
	return list
}

// holdRefused does steps that are refused, and holds that nothing has come of them.
func holdRefused(t *testing.T, s *Store, e api.Errno, steps ...api.Step) {
	t.Helper()
	was := seen(s)
	for _, x := range steps {
		hold(t, s, x, api.Answer{E: e})
		if now := seen(s); !slices.Equal(now, was) {
			t.Fatalf("%+v was refused, and changed something", x)
		}
	}
}

// spoil gives both sides of the tape these records, and has the store recover.
func spoil(t *testing.T, s *Store, list ...api.Rec) api.Errno {
	t.Helper()
	b := entries(t, list...)
	s.Tape().Spoil(0, b)
	s.Tape().Spoil(1, b)
	return s.Do(crash(0, 0)).E
}

// The document's example.
func TestExample(t *testing.T) {
	s := made(t, 2, 1, even(3, 4))
	put(t, s, "key", "some data")
	holdGet(t, s, "key", "some data")
}

// Which stores there can be, and what they are.
func TestNew(t *testing.T) {
	for k := -1; k <= api.MaxK+1; k++ {
		for m := -1; m <= api.MaxM+1; m++ {
			for many := range api.MaxDrives + 2 {
				holdNew(t, k, m, even(many, many), newErr(k, m, many))
			}
		}
	}
	for _, n := range far() {
		holdNew(t, n, 1, even(12, 1), api.ErrArg)
		holdNew(t, 1, n, even(12, 1), api.ErrArg)
		holdNew(t, n, n, nil, api.ErrArg)
		holdNew(t, n, -n, nil, api.ErrArg)
	}
}

func newErr(k, m, many int) api.Errno {
	switch {
	case k < 1 || k > 4 || m < 0 || m > 3 || many > 12:
		return api.ErrArg
	case many < k+m:
		return api.ErrTooFew
	}
	return api.OK
}

func holdNew(t *testing.T, k, m int, drives []int, want api.Errno) {
	t.Helper()
	s, e := New(k, m, drives)
	if e != want || (s == nil) != (want != api.OK) {
		t.Fatalf("New(%d, %d, %v) = %v, %d, want %d", k, m, drives, s, e, want)
	}
	if s == nil {
		return
	}
	first := api.Rec{Kind: api.RecPool, ID: 1, Drives: in(len(drives))}
	if list := records(t, s); len(list) != 1 || fmt.Sprint(list[0]) != fmt.Sprint(first) {
		t.Fatalf("records %+v, want %+v", list, first)
	}
	x := s.Table()
	if !slices.Equal(x.States(), in(len(drives))) || x.Epoch() != 1 || x.Last() != 0 || len(x.Keys()) != 0 || s.Pool().Len() != len(drives) {
		t.Fatalf("%+v, %d drives", x.All(), s.Pool().Len())
	}
	if len(s.Tasks()) != 0 || len(s.Parked()) != 0 || !s.Idle() {
		t.Fatalf("tasks %v, parked %v, idle %v", s.Tasks(), s.Parked(), s.Idle())
	}
}

// Drives have as many slots as was said, the ends beyond.
func TestNewSlots(t *testing.T) {
	s := made(t, 1, 0, append([]int{0, 1, 7, 127, 128, 129, -1}, math.MinInt64, math.MaxInt64))
	for n, want := range []int{0, 1, 7, 127, 128, 128, 0, 0, 128} {
		if got := s.Pool().Drive(n).Cap(); got != want {
			t.Errorf("drive %d has %d slots, want %d", n, got, want)
		}
	}
}

// A store that there is not.
func TestNil(t *testing.T) {
	var s *Store
	for kind := -1; kind < 12; kind++ {
		holdE(t, s, api.ErrArg, step(kind, 1))
	}
	if s.Table() != nil || s.Pool() != nil || s.Tape() != nil || s.Tasks() != nil || s.Idle() || s.Parked() != nil {
		t.Error("of no store there is something")
	}
}

// A store that New did not make answers, too.
func TestUnmade(t *testing.T) {
	for kind := -1; kind < 12; kind++ {
		for a := range 6 {
			var s Store
			s.Do(api.Step{Kind: kind, A: a, Key: "key"})
			for other := 1; other < 10; other++ {
				s.Do(step(other, 0))
			}
			s.Tasks()
			s.Idle()
			s.Parked()
		}
	}
}

// A step of a kind that there is not changes nothing; neither does it when the power is gone.
func TestKinds(t *testing.T) {
	s := spread(t, 2, 1, 4, "some data")
	began(t, s, api.Put, "other", "data", 0)
	for _, kind := range append(far(), 0, 10, 11) {
		for _, a := range []int{0, 1, 2} {
			holdRefused(t, s, api.ErrArg, api.Step{Kind: kind, A: a, Key: "key", Data: []byte("data"), Keep: 1})
		}
	}
	holdOK(t, s, step(api.StepFuse, 0))
	hold(t, s, step(api.StepRun, 0), api.Answer{E: api.ErrDown})
	for _, kind := range append(far(), 0, 10) {
		holdRefused(t, s, api.ErrArg, step(kind, 0))
	}
}

// What a Call may ask for; what is wrong with it comes ahead of all else.
func TestCallCheck(t *testing.T) {
	s := made(t, 1, 0, even(1, 4))
	long := strings.Repeat("k", api.MaxKey)
	for _, full := range []bool{false, true} {
		for _, op := range append(far(), 0, 5) {
			holdRefused(t, s, api.ErrArg, call(op, "", text+"!"), call(op, "key", ""))
		}
		for _, op := range []int{api.Put, api.Get, api.Del} {
			holdRefused(t, s, api.ErrBadKey, call(op, "", text+"!"), call(op, long+"k", text+"!"))
		}
		holdRefused(t, s, api.ErrTooLarge, call(api.Put, "key", text+"!"), call(api.Put, long, text+text))
		if full {
			continue
		}
		for n := range api.MaxTasks {
			began(t, s, api.Get, "key", "", n)
		}
	}
	holdRefused(t, s, api.ErrBusy, call(api.Put, long, text), call(api.List, long+long, text+text))
}

// There are at most so many tasks, each with the least number that none has.
func TestNumbers(t *testing.T) {
	s := made(t, 1, 1, even(2, 100))
	for n := range api.MaxTasks {
		began(t, s, api.List, "", "", n)
	}
	holdRefused(t, s, api.ErrBusy, call(api.List, "", ""), call(api.Put, "key", ""), call(api.Get, "key", ""), call(api.Del, "key", ""))
	for _, row := range [][]int{{3}, {5, 0}, {2, 4, 1}, {5, 4, 3, 2, 1, 0}} {
		for _, n := range row {
			ends(t, s, n)
		}
		slices.Sort(row)
		left := []int{0, 1, 2, 3, 4, 5}
		left = slices.DeleteFunc(left, func(n int) bool { return slices.Contains(row, n) })
		if !slices.Equal(s.Tasks(), left) {
			t.Errorf("tasks %v, want %v", s.Tasks(), left)
		}
		for _, n := range row {
			began(t, s, api.Get, "key", "", n)
		}
	}
	if want := []int{0, 1, 2, 3, 4, 5}; !slices.Equal(s.Tasks(), want) {
		t.Errorf("tasks %v, want %v", s.Tasks(), want)
	}
}

// Two tasks that write do not have one key; all others may.
func TestBusy(t *testing.T) {
	writes := func(op int) bool { return op == api.Put || op == api.Del }
	for one := api.Put; one <= api.List; one++ {
		for two := api.Put; two <= api.List; two++ {
			s := spread(t, 1, 1, 2, "data")
			began(t, s, api.Put, "first", "", 0)
			began(t, s, one, "a", "", 1)
			if writes(one) && writes(two) {
				holdRefused(t, s, api.ErrBusy, call(two, "a", ""))
			} else {
				began(t, s, two, "a", "", 2)
			}
			began(t, s, two, "aa", "", len(s.Tasks()))
			ends(t, s, 1)
			hold(t, s, call(two, "b", ""), api.Answer{Task: 1})
		}
	}
	s := made(t, 1, 0, even(1, 4))
	began(t, s, api.Put, "a", "", 0)
	ends(t, s, 0)
	began(t, s, api.Del, "a", "", 0)
	holdRefused(t, s, api.ErrBusy, call(api.Put, "a", ""))
	ends(t, s, 0)
	began(t, s, api.Put, "a", "", 0)
}

// A Run of no task.
func TestRunNone(t *testing.T) {
	s := made(t, 1, 0, even(1, 4))
	for _, n := range append(far(), 0, 1, 5, 6) {
		holdRefused(t, s, api.ErrNone, step(api.StepRun, n))
	}
	began(t, s, api.Put, "a", "b", 0)
	for _, n := range append(far(), 1, 5, 6) {
		holdRefused(t, s, api.ErrNone, step(api.StepRun, n))
	}
	ends(t, s, 0)
	holdRefused(t, s, api.ErrNone, step(api.StepRun, 0))
}

// A Put does one thing each Run: each shard is Stored, each drive Flushed; and what is there changes in the last one alone.
func TestPutOneByOne(t *testing.T) {
	s := spread(t, 2, 1, 5, "former")
	began(t, s, api.Get, "b", "", 0)
	began(t, s, api.Put, "a", text[:33], 1)
	was := records(t, s)
	o := api.Object{Key: "a", ID: 2, Size: 33}
	for n := range 3 {
		target, _ := plan.Target(planTable(t, 5, 2), 32+n, 3)
		o.Stripes = append(o.Stripes, api.Stripe{ID: 32 + n, Epoch: 1, Locs: target})
	}
	for n := range 18 {
		hold(t, s, step(api.StepRun, 1), api.Answer{Task: 1})
		each := o.Stripes[n%9/3]
		drive, pos := each.Locs[n%3], n%3
		if _, e := s.Pool().Load(drive, each.ID, pos); e != api.OK {
			t.Errorf("Run %d did not Store", n)
		}
		if n >= 9 && !s.Pool().Lasts(drive, each.ID, pos) {
			t.Errorf("Run %d did not Flush", n)
		}
		if s.Idle() || !reflect.DeepEqual(records(t, s), was) || reading(s)["a"] != "former" {
			t.Fatalf("Run %d changed what is there", n)
		}
	}
	hold(t, s, step(api.StepRun, 1), api.Answer{Task: 1, Done: true, Mark: api.Changed})
	holdLast(t, s, api.Rec{Kind: api.RecPut, ID: 2, Size: 33, Key: "a", Stripes: o.Stripes})
	if got, _ := s.Table().Object("a"); !reflect.DeepEqual(got, o) || s.Table().Last() != 2 {
		t.Errorf("%+v, want %+v", got, o)
	}
	if !slices.Equal(s.Tasks(), []int{0}) || reading(s)["a"] != text[:33] {
		t.Errorf("tasks %v, a is %q", s.Tasks(), reading(s)["a"])
	}
	holdSafe(t, s)
}

// planTable is a table of so many drives, all In, with stripes of all IDs of that version, for their Targets.
func planTable(t *testing.T, many, version int) *table.Table {
	t.Helper()
	x := table.New(1, 0)
	x.Apply(api.Rec{Kind: api.RecPool, ID: 1, Drives: in(many)})
	r := api.Rec{Kind: api.RecPut, Key: "key", ID: version, Size: 96}
	for n := range 12 {
		r.Stripes = append(r.Stripes, api.Stripe{ID: 16*version + n, Locs: []int{0}})
	}
	if e := x.Apply(r); e != api.OK {
		t.Fatal(e)
	}
	return x
}

// Objects of all sizes, in all stores: what was put is got, and safe.
func TestSizes(t *testing.T) {
	t.Parallel()
	eachCode(func(k, m int) {
		s := made(t, k, m, even(k+m+1, api.MaxCap))
		for size := range api.MaxData + 1 {
			put(t, s, "key", text[:size])
			holdGet(t, s, "key", text[:size])
			holdSafe(t, s)
			settle(t, s)
		}
		holdSettled(t, s)
		if got := s.Table().Last(); got != 97 {
			t.Errorf("Last is %d", got)
		}
	})
}

// A Put of nothing is done in one Run, though all drives be lost, or have no slots.
func TestPutNothing(t *testing.T) {
	s := made(t, 2, 1, even(3, 0))
	for n := range 3 {
		holdOK(t, s, step(api.StepLose, n))
	}
	began(t, s, api.Put, "a", "", 0)
	hold(t, s, step(api.StepRun, 0), api.Answer{Done: true, Mark: api.Changed})
	holdLast(t, s, api.Rec{Kind: api.RecPut, ID: 1, Key: "a"})
	began(t, s, api.Get, "a", "", 0)
	hold(t, s, step(api.StepRun, 0), api.Answer{Done: true, Mark: api.Looked})
	holdWhole(t, s, api.List, "", "", api.Answer{Mark: api.Looked, Keys: []string{"a"}})
}

// Keys and data are any bytes.
func TestAnyBytes(t *testing.T) {
	s := made(t, 3, 2, even(6, api.MaxCap))
	var keys []string
	for n := range 16 {
		key := string([]byte{byte(17 * n), 0, 255, byte(255 - n)}[:1+n%4])
		data := bytes.Repeat([]byte{byte(n), 0, 255, 10}, n)
		put(t, s, key, string(data))
		holdGet(t, s, key, string(data))
		keys = append(keys, key)
	}
	slices.Sort(keys)
	holdWhole(t, s, api.List, "", "", api.Answer{Mark: api.Looked, Keys: slices.Compact(keys)})
}

// A Put that meets an error ends with it, and changes nothing of what is there.
func TestPutErrors(t *testing.T) {
	for n, want := range []api.Errno{api.ErrFull, api.ErrLost} {
		s := made(t, 2, 1, []int{9, 9, 9, 1})
		put(t, s, "a", "former")
		for s.Pool().Free(3) > 0 {
			if e := s.Pool().Store(3, 1, 0, nil); e != api.OK {
				t.Fatal(e)
			}
		}
		if n == 1 {
			holdOK(t, s, step(api.StepLose, 3))
		}
		began(t, s, api.Put, "a", text[:80], 0)
		was := fmt.Sprint(s.Table().All())
		a := ends(t, s, 0)
		if !same(a, api.Answer{E: want, Done: true}) {
			t.Errorf("%+v, want %d", a, want)
		}
		if now := fmt.Sprint(s.Table().All()); now != was || len(s.Tasks()) != 0 {
			t.Errorf("%s, was %s; tasks %v", now, was, s.Tasks())
		}
		holdGet(t, s, "a", "former")
	}
}

// A drive that is lost between a Put's Stores and its Flushes: the Put ends with it.
func TestPutLostBetween(t *testing.T) {
	s := made(t, 1, 1, even(2, 9))
	began(t, s, api.Put, "a", "data", 0)
	goes(t, s, 0, 3)
	holdOK(t, s, step(api.StepLose, 0), step(api.StepLose, 1))
	hold(t, s, step(api.StepRun, 0), api.Answer{E: api.ErrLost, Done: true})
	holdNone(t, s, "a")
}

// Versions are one above all that there were, and all that are on their way.
func TestVersions(t *testing.T) {
	s := made(t, 1, 0, even(1, 100))
	began(t, s, api.Put, "a", "a", 0) // 1
	began(t, s, api.Put, "b", "b", 1) // 2
	began(t, s, api.Put, "c", "c", 2) // 3
	ends(t, s, 1)
	holdVersion(t, s, "b", 2, 2)
	began(t, s, api.Put, "d", "d", 1) // 4
	ends(t, s, 2)
	holdVersion(t, s, "c", 3, 3)
	began(t, s, api.Del, "c", "", 2)
	ends(t, s, 2)
	holdLast(t, s, api.Rec{Kind: api.RecDel, ID: 5, Key: "c"})
	ends(t, s, 0)
	holdVersion(t, s, "a", 1, 5)
	ends(t, s, 1)
	holdVersion(t, s, "d", 4, 5)
	put(t, s, "a", "")
	holdVersion(t, s, "a", 6, 6)
	// One that ends without a change leaves its version to others.
	holdWhole(t, s, api.Del, "c", "", api.Answer{E: api.ErrNone, Mark: api.Looked})
	began(t, s, api.Put, "e", "e", 0)
	holdOK(t, s, crash(0, 0))
	put(t, s, "f", "f")
	holdVersion(t, s, "f", 7, 7)
}

func holdVersion(t *testing.T, s *Store, key string, version, last int) {
	t.Helper()
	if o, _ := s.Table().Object(key); o.ID != version || s.Table().Last() != last {
		t.Errorf("%q has version %d, the last one is %d; want %d and %d", key, o.ID, s.Table().Last(), version, last)
	}
}

// bound is a store whose last version is so many below the greatest one.
func bound(t *testing.T, below int) *Store {
	t.Helper()
	s := made(t, 1, 0, even(2, 3))
	r := api.Rec{Kind: api.RecAll, ID: 1<<25 - below, Size: 7, Drives: in(2), Objects: []api.Object{{Key: "old", ID: 1}}}
	if e := spoil(t, s, r); e != api.OK {
		t.Fatal(e)
	}
	return s
}

// Versions next to their bound: of a Put there must be room for as many as there may be tasks; a Del has the last one at most.
func TestVersionBound(t *testing.T) {
	for below := range 10 {
		s := bound(t, below)
		if below <= api.MaxTasks {
			holdRefused(t, s, api.ErrArg, call(api.Put, "key", "data"), call(api.Put, "old", ""))
			holdNone(t, s, "key")
			holdGet(t, s, "old", "")
			del(t, s, "old")
			want := min(1<<25-below+1, 1<<25)
			holdLast(t, s, api.Rec{Kind: api.RecDel, ID: want, Key: "old"})
			holdVersion(t, s, "old", 0, want)
			holdOK(t, s, crash(0, 0))
			holdNone(t, s, "old")
			continue
		}
		put(t, s, "key", "data")
		holdVersion(t, s, "key", 1<<25-below+1, 1<<25-below+1)
		holdOK(t, s, crash(0, 0))
		holdGet(t, s, "key", "data")
	}
}

// What is wrong with a Put by its version comes behind ErrBusy, and ahead of what is wrong with its plan.
func TestVersionBoundOrder(t *testing.T) {
	s := bound(t, 6)
	began(t, s, api.Del, "old", "", 0)
	holdRefused(t, s, api.ErrBusy, call(api.Put, "old", ""))
	holdRefused(t, s, api.ErrArg, call(api.Put, "key", ""))
	if e := spoil(t, s, api.Rec{Kind: api.RecAll, ID: 1<<25 - 6, Drives: []int{api.Gone, api.Draining}}); e != api.OK {
		t.Fatal(e)
	}
	holdRefused(t, s, api.ErrArg, call(api.Put, "key", "data"))
	if e := spoil(t, s, api.Rec{Kind: api.RecAll, ID: 1<<25 - 7, Drives: []int{api.Gone, api.Draining}}); e != api.OK {
		t.Fatal(e)
	}
	holdRefused(t, s, api.ErrTooFew, call(api.Put, "key", "data"))
	put(t, s, "key", "")
}

// As many Puts as there may be, next to the bound; and a Del behind them, of the greatest version of all.
func TestVersionBoundFull(t *testing.T) {
	s := bound(t, 7)
	for n := range api.MaxTasks {
		began(t, s, api.Put, string(rune('a'+n)), "", n)
	}
	ends(t, s, 0)
	holdVersion(t, s, "a", 1<<25-6, 1<<25-6)
	began(t, s, api.Del, "a", "", 0)
	holdRefused(t, s, api.ErrBusy, call(api.Put, "g", ""))
	ends(t, s, 0)
	holdLast(t, s, api.Rec{Kind: api.RecDel, ID: 1 << 25, Key: "a"})
	began(t, s, api.Del, "old", "", 0)
	ends(t, s, 0)
	holdLast(t, s, api.Rec{Kind: api.RecDel, ID: 1 << 25, Key: "old"})
	holdRefused(t, s, api.ErrArg, call(api.Put, "g", ""))
	for n := 1; n < api.MaxTasks; n++ {
		ends(t, s, n)
		holdVersion(t, s, string(rune('a'+n)), 1<<25-6+n, 1<<25)
	}
	holdOK(t, s, crash(0, 0))
	holdWhole(t, s, api.List, "", "", api.Answer{Mark: api.Looked, Keys: []string{"b", "c", "d", "e", "f"}})
}

// Puts that fail next to the bound have those behind them come beyond it: these end with an error, and the log is none the worse.
func TestVersionBeyondBound(t *testing.T) {
	s := bound(t, 7)
	for n := range api.MaxTasks {
		began(t, s, api.Put, string(rune('a'+n)), text, n) // the drives have no room for it
	}
	for n := range 2 {
		if a := ends(t, s, n); a.E != api.ErrFull {
			t.Fatalf("%+v", a)
		}
		began(t, s, api.Put, string(rune('a'+n)), "", n)
	}
	put := s.Do(step(api.StepRun, 0))
	if !same(put, api.Answer{Done: true, Mark: api.Changed}) {
		t.Errorf("%+v", put)
	}
	holdVersion(t, s, "a", 1<<25, 1<<25)
	was := records(t, s)
	hold(t, s, step(api.StepRun, 1), api.Answer{E: api.ErrForm, Task: 1, Done: true})
	if now := records(t, s); !reflect.DeepEqual(now, was) {
		t.Errorf("%+v, want %+v", now, was)
	}
	holdNone(t, s, "b")
	holdOK(t, s, crash(0, 0))
	holdGet(t, s, "a", "")
}

// A Del of what is not there, and of what is.
func TestDel(t *testing.T) {
	s := spread(t, 2, 1, 4, text[:40], "b")
	was := records(t, s)
	holdWhole(t, s, api.Del, "c", text+text, api.Answer{E: api.ErrNone, Mark: api.Looked})
	if !reflect.DeepEqual(records(t, s), was) {
		t.Error("a Del of nothing is in the log")
	}
	began(t, s, api.Del, "a", "", 0)
	holdGet(t, s, "a", text[:40])
	hold(t, s, step(api.StepRun, 0), api.Answer{Done: true, Mark: api.Changed})
	holdLast(t, s, api.Rec{Kind: api.RecDel, ID: 3, Key: "a"})
	holdNone(t, s, "a")
	holdGet(t, s, "b", "b")
	if s.Idle() {
		t.Error("there are strays")
	}
	if got := settle(t, s); got != 9 {
		t.Errorf("%d steps, want one for each shard", got)
	}
	holdSettled(t, s)
	holdWhole(t, s, api.Del, "a", "", api.Answer{E: api.ErrNone, Mark: api.Looked})
}

// Whether a Del's key is there is asked in its Run, not in its Call.
func TestDelLate(t *testing.T) {
	s := spread(t, 1, 0, 2, "data")
	began(t, s, api.Del, "a", "", 0)
	began(t, s, api.Del, "b", "", 1)
	s.Table().Apply(api.Rec{Kind: api.RecDel, Key: "a", ID: 2})
	s.Table().Apply(api.Rec{Kind: api.RecPut, Key: "b", ID: 3})
	hold(t, s, step(api.StepRun, 0), api.Answer{E: api.ErrNone, Done: true, Mark: api.Looked})
	hold(t, s, step(api.StepRun, 1), api.Answer{Task: 1, Done: true, Mark: api.Changed})
}

// A List is of the keys that there are in its Run.
func TestList(t *testing.T) {
	s := made(t, 1, 0, even(1, 9))
	began(t, s, api.List, "any key that is not looked at", text+text, 0)
	hold(t, s, step(api.StepRun, 0), api.Answer{Done: true, Mark: api.Looked})
	began(t, s, api.List, "", "", 0)
	for _, key := range []string{"b", "c", "a", "\x00", "\xff", "aa", "B"} {
		hold(t, s, call(api.Put, key, key), api.Answer{Task: 1})
		ends(t, s, 1)
	}
	hold(t, s, call(api.Del, "c", ""), api.Answer{Task: 1})
	ends(t, s, 1)
	hold(t, s, step(api.StepRun, 0), api.Answer{Done: true, Mark: api.Looked, Keys: []string{"\x00", "B", "a", "aa", "b", "\xff"}})
}

// A Get looks, and then reads one stripe each Run; it ends with the last one.
func TestGetOneByOne(t *testing.T) {
	eachCode(func(k, m int) {
		s := made(t, k, m, even(k+m, api.MaxCap))
		for _, size := range []int{1, 8*k - 1, 8 * k, 8*k + 1, 16 * k, 95, 96} {
			data := text[:size]
			put(t, s, "key", data)
			began(t, s, api.Get, "key", "", 0)
			hold(t, s, step(api.StepRun, 0), api.Answer{Mark: api.Looked})
			goes(t, s, 0, (size+8*k-1)/(8*k)-1)
			hold(t, s, step(api.StepRun, 0), api.Answer{Done: true, Data: []byte(data)})
			settle(t, s)
		}
	})
}

// A Get of what is not there, of nothing, and of what comes between its Call and its first Run.
func TestGetNone(t *testing.T) {
	s := made(t, 2, 1, even(3, 40))
	holdNone(t, s, "key")
	began(t, s, api.Get, "key", "", 0)
	hold(t, s, call(api.Put, "key", "data"), api.Answer{Task: 1})
	ends(t, s, 1)
	hold(t, s, step(api.StepRun, 0), api.Answer{Mark: api.Looked})
	hold(t, s, step(api.StepRun, 0), api.Answer{Done: true, Data: []byte("data")})
	put(t, s, "key", "")
	holdGet(t, s, "key", "")
	del(t, s, "key")
	holdNone(t, s, "key")
}

// got is a store of one object of three stripes, and a Get of it that has looked, and read so many of them.
func got(t *testing.T, read int) *Store {
	t.Helper()
	s := spread(t, 2, 1, 5, text[:48])
	began(t, s, api.Get, "a", "", 0)
	hold(t, s, step(api.StepRun, 0), api.Answer{Mark: api.Looked})
	goes(t, s, 0, read)
	return s
}

// between does a whole call, as task 1.
func between(t *testing.T, s *Store, op int, key, data string) {
	t.Helper()
	began(t, s, op, key, data, 1)
	ends(t, s, 1)
}

// A Get whose stripe is not there any more looks again, and begins anew.
func TestGetReplaced(t *testing.T) {
	for read := range 3 {
		s := got(t, read)
		between(t, s, api.Put, "a", text[20:55])
		moveAll(t, s)
		hold(t, s, step(api.StepRun, 0), api.Answer{Mark: api.Looked})
		goes(t, s, 0, 1)
		between(t, s, api.Put, "a", "short")
		between(t, s, api.Put, "a", "shorter")
		hold(t, s, step(api.StepRun, 0), api.Answer{Mark: api.Looked})
		hold(t, s, step(api.StepRun, 0), api.Answer{Done: true, Data: []byte("shorter")})
	}
}

// moveAll has the migration go on till it has nothing to do, tasks or not.
func moveAll(t *testing.T, s *Store) {
	t.Helper()
	for range 10000 {
		_, _, _, stray := plan.Stray(s.Pool(), s.Table(), s.plans())
		if !stray && len(plan.Wrong(s.Table(), s.k+s.m)) == 0 && s.move == nil {
			return
		}
		holdOK(t, s, step(api.StepMove, 0))
	}
	t.Fatal("the migration has no end")
}

// A Get whose object was taken away, or is one of nothing, while it read.
func TestGetGone(t *testing.T) {
	for read := range 3 {
		s := got(t, read)
		between(t, s, api.Del, "a", "")
		hold(t, s, step(api.StepRun, 0), api.Answer{E: api.ErrNone, Done: true, Mark: api.Looked})
		s = got(t, read)
		between(t, s, api.Put, "a", "")
		hold(t, s, step(api.StepRun, 0), api.Answer{Done: true, Mark: api.Looked})
		s = got(t, read)
		between(t, s, api.Del, "a", "")
		between(t, s, api.Put, "a", "again")
		hold(t, s, step(api.StepRun, 0), api.Answer{Mark: api.Looked})
		hold(t, s, step(api.StepRun, 0), api.Answer{Done: true, Data: []byte("again")})
		s = got(t, read)
		between(t, s, api.Put, "b", "of another key")
		goes(t, s, 0, 2-read)
		hold(t, s, step(api.StepRun, 0), api.Answer{Done: true, Data: []byte(text[:48])})
	}
}

// A Get reads a stripe where that is by now, not where it was.
func TestGetMoved(t *testing.T) {
	for read := range 3 {
		s := got(t, read)
		for range 4 {
			holdOK(t, s, step(api.StepAdd, api.MaxCap))
		}
		for n := range 5 {
			holdOK(t, s, step(api.StepDrain, n))
		}
		moveAll(t, s)
		for n := range 5 {
			if held := s.Pool().Held(n); len(held) > 0 {
				t.Fatalf("drive %d has %v", n, held)
			}
			holdOK(t, s, step(api.StepRemove, n), step(api.StepLose, n))
		}
		goes(t, s, 0, 2-read)
		hold(t, s, step(api.StepRun, 0), api.Answer{Done: true, Data: []byte(text[:48])})
	}
}

// m drives may be lost, whichever: all is read; of one more a Get is ErrLost, or all the same what it was.
func TestGetLost(t *testing.T) {
	eachCode(func(k, m int) {
		for first := range k + m {
			s := spread(t, k, m, k+m, text[:17], text)
			for n := range m {
				holdOK(t, s, step(api.StepLose, (first+n)%(k+m)))
				holdGet(t, s, "a", text[:17])
				holdGet(t, s, "b", text)
			}
			began(t, s, api.Get, "a", "", 0)
			hold(t, s, step(api.StepRun, 0), api.Answer{Mark: api.Looked})
			holdOK(t, s, step(api.StepLose, (first+m)%(k+m)))
			hold(t, s, step(api.StepRun, 0), api.Answer{E: api.ErrLost, Done: true})
			if len(s.Tasks()) != 0 {
				t.Errorf("tasks %v", s.Tasks())
			}
			holdWhole(t, s, api.List, "", "", api.Answer{Mark: api.Looked, Keys: []string{"a", "b"}})
		}
	})
}

// A Get that meets what is lost in a later stripe ends there, with nothing of the others.
func TestGetLostLater(t *testing.T) {
	s := spread(t, 1, 0, 6, text[:32])
	o, _ := s.Table().Object("a")
	last := o.Stripes[3].Locs[0]
	for n := range 3 {
		if o.Stripes[n].Locs[0] == last {
			t.Fatalf("%+v", o)
		}
	}
	holdOK(t, s, step(api.StepLose, last))
	began(t, s, api.Get, "a", "", 0)
	hold(t, s, step(api.StepRun, 0), api.Answer{Mark: api.Looked})
	goes(t, s, 0, 3)
	hold(t, s, step(api.StepRun, 0), api.Answer{E: api.ErrLost, Done: true})
}
