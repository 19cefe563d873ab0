package wal

import (
	"encoding/binary"
	"hash/crc32"
	"slices"
	"strings"
	"testing"

	"flitting/api"
	"flitting/rec"
	"flitting/tape"
)

// bytesOf is a record that fits, as bytes.
func bytesOf(r api.Rec) []byte {
	b, e := rec.Encode(r)
	if e != api.OK {
		panic("no record")
	}
	return b
}

// framed is the entry of any bytes, told by the library.
func framed(record []byte) string {
	b := binary.BigEndian.AppendUint32(nil, uint32(len(record)))
	both := append(slices.Clone(b), record...)
	b = binary.BigEndian.AppendUint32(b, crc32.Checksum(both, crc32.MakeTable(crc32.Castagnoli)))
	return string(append(b, record...))
}

// rowOf is the entries of records, one behind the other.
func rowOf(list ...api.Rec) string {
	row := ""
	for _, r := range list {
		row += framed(bytesOf(r))
	}
	return row
}

// scanned is the records at the front of b, told another way: what stands behind the first eight bytes is framed anew.
func scanned(b string) (list []api.Rec, taken int) {
	if len(b) < 8 {
		return nil, 0
	}
	record := b[8:]
	if size := binary.BigEndian.Uint32([]byte(b)); int64(size) < int64(len(record)) {
		record = record[:size]
	}
	r, e := rec.Decode([]byte(record))
	entry := framed([]byte(record))
	if e != api.OK || !strings.HasPrefix(b, entry) {
		return nil, 0
	}
	rest, more := scanned(b[len(entry):])
	return append([]api.Rec{r}, rest...), len(entry) + more
}

// model is a log told another way, on a tape of its own.
type model struct {
	tape *tape.Tape
	has  string
	down bool
	none bool
}

func (m *model) open() ([]api.Rec, api.Errno) {
	first, lost0 := m.tape.Read(0)
	second, lost1 := m.tape.Read(1)
	m.none = true
	if lost0 != api.OK && lost1 != api.OK {
		return nil, api.ErrLost
	}
	list, taken := scanned(string(first))
	whole := string(first[:taken])
	if other, more := scanned(string(second)); lost0 != api.OK || lost1 == api.OK && more > taken {
		list, whole = other, string(second[:more])
	}
	if lost0 == api.OK && string(first) != whole || lost1 == api.OK && string(second) != whole {
		if e := m.tape.Replace([]byte(whole)); e != api.OK {
			return nil, e
		}
	}
	m.has, m.down, m.none = whole, false, false
	return list, api.OK
}

// put is Append, or of whole Checkpoint.
func (m *model) put(r api.Rec, whole bool) api.Errno {
	if m.none {
		return api.ErrArg
	}
	if m.down {
		return api.ErrDown
	}
	b, e := rec.Encode(r)
	if e != api.OK {
		return e
	}
	has := m.has + framed(b)
	if whole {
		has = framed(b)
	}
	if len(has) > 16384 {
		return api.ErrFull
	}
	if whole {
		e = m.tape.Replace([]byte(has))
	} else {
		e = m.tape.Append([]byte(framed(b)))
	}
	m.down = e == api.ErrDown
	if e == api.OK {
		m.has = has
	}
	return e
}

func (m *model) size() int {
	if m.none {
		return 0
	}
	return len(m.has)
}

// both is a log, and the model that it is held against.
type both struct {
	tape *tape.Tape
	log  *Log
	m    *model
}

func newBoth() *both {
	b := &both{tape: tape.New(), m: &model{tape: tape.New(), none: true}}
	b.log, _, _ = Open(b.tape)
	b.m.open()
	return b
}

// tapes does the same to both tapes.
func (b *both) tapes(do func(x *tape.Tape)) {
	do(b.tape)
	do(b.m.tape)
}

func (b *both) open(t *testing.T) {
	t.Helper()
	log, list, e := Open(b.tape)
	want, we := b.m.open()
	if e != we || !sameList(list, want) || (log == nil) != b.m.none {
		t.Errorf("Open = %v, %v, %d, want %v, %d", log, list, e, want, we)
	}
	b.log = log
}

func (b *both) put(t *testing.T, r api.Rec, whole bool) {
	t.Helper()
	do, name := b.log.Append, "Append"
	if whole {
		do, name = b.log.Checkpoint, "Checkpoint"
	}
	if got, want := do(r), b.m.put(r, whole); got != want {
		t.Errorf("%s(%v) = %d, want %d", name, r, got, want)
	}
}

// hold holds what the log tells, and what its tape has.
func (b *both) hold(t *testing.T) {
	t.Helper()
	if got, want := b.log.Size(), b.m.size(); got != want {
		t.Errorf("Size = %d, want %d", got, want)
	}
	for side := range 2 {
		want, e := b.m.tape.Read(side)
		holdSide(t, b.tape, side, string(want), e)
	}
}

// seeded is a row of numbers that follow a rule.
type seeded uint64

// below goes on, and is a number below n.
func (s *seeded) below(n int) int {
	*s = *s*6364136223846793005 + 1442695040888963407
	return int(uint64(*s) >> 33 % uint64(n))
}

// rec is mostly a record that fits; at times a large one, or none.
func (s *seeded) rec() api.Rec {
	r := api.Rec{Kind: 1 + s.below(5), ID: s.below(1 << 30), Key: "0123456789abcdef"[:s.below(17)]}
	for range s.below(3) {
		r.Stripes = append(r.Stripes, api.Stripe{ID: s.below(1 << 30), Locs: []int{s.below(12), s.below(12)}})
	}
	switch s.below(30) {
	case 0:
		r.Kind = 6
	case 1:
		r.ID = -1
	case 2:
		return sized(2000 + s.below(6500))
	}
	return r
}

// spoilt is bytes to spoil a side with: what it has, cut, or with a bit turned, or with more behind; or entries; or none.
func (s *seeded) spoilt(was []byte) []byte {
	was = slices.Clone(was)
	switch s.below(5) {
	case 0:
		return was[:s.below(len(was)+1)]
	case 1:
		if len(was) > 0 {
			was[s.below(len(was))] ^= 1 << s.below(8)
		}
		return was
	case 2:
		return append(was, make([]byte, s.below(30))...)
	case 3:
		return append(was, rowOf(api.Rec{Kind: 1, ID: s.below(100)}, api.Rec{Kind: 2, Key: "k"})...)
	default:
		return nil
	}
}

// step does the same call on both.
func (s *seeded) step(t *testing.T, b *both, losses int) {
	t.Helper()
	switch kind := s.below(100); {
	case kind < losses:
		side := s.below(2)
		b.tapes(func(x *tape.Tape) { x.Lose(side) })
	case kind < 10:
		// What a log has then is told by Open alone, so that comes next.
		side := s.below(2)
		was, _ := b.tape.Read(side)
		with := s.spoilt(was)
		b.tapes(func(x *tape.Tape) { x.Spoil(side, with) })
		b.open(t)
	case kind < 18:
		writes := s.below(8) - 1
		b.tapes(func(x *tape.Tape) { x.Fuse(writes) })
	case kind < 33:
		keep := s.below(60) - 2
		b.tapes(func(x *tape.Tape) { x.Crash(keep) })
	case kind < 48:
		b.open(t)
	case kind < 55:
		b.put(t, s.rec(), true)
	default:
		b.put(t, s.rec(), false)
	}
}

// Whatever calls come one behind the other, two logs tell the same as the model.
func TestManyCalls(t *testing.T) {
	for run := range uint64(150) {
		seed, again := seeded(run), seeded(run)
		losses := int(run % 3)
		b, b2 := newBoth(), newBoth()
		for range 120 {
			seed.step(t, b, losses)
			again.step(t, b2, losses)
			b.hold(t)
			b2.hold(t)
			if t.Failed() {
				t.Fatalf("run %d", run)
			}
		}
	}
}

// calls is each call that matters to the others.
func calls(t *testing.T) []func(b *both) {
	one, other := api.Rec{Kind: 2, ID: 1}, api.Rec{Kind: 2, ID: 2}
	on := func(do func(x *tape.Tape)) func(b *both) {
		return func(b *both) { b.tapes(do) }
	}
	all := []func(b *both){
		func(b *both) { b.put(t, one, false) },
		func(b *both) { b.put(t, other, true) },
		func(b *both) { b.put(t, api.Rec{}, false) },
		func(b *both) { b.open(t) },
		on(func(x *tape.Tape) { x.Spoil(0, []byte(rowOf(other, other, one)+"!")) }),
	}
	for n := range 2 {
		all = append(all,
			on(func(x *tape.Tape) { x.Lose(n) }),
			on(func(x *tape.Tape) { x.Fuse(n) }),
			on(func(x *tape.Tape) { x.Crash(n) }))
	}
	return append(all, on(func(x *tape.Tape) { x.Crash(25) }))
}

// All rows of four calls, on a log that has a record.
func TestAllShortRows(t *testing.T) {
	all := calls(t)
	const long = 4
	rows := 1
	for range long {
		rows *= len(all)
	}
	for row := range rows {
		b := newBoth()
		b.put(t, api.Rec{Kind: 5}, false)
		for at, rest := 0, row; at < long; at, rest = at+1, rest/len(all) {
			all[rest%len(all)](b)
			b.hold(t)
		}
		// Whatever was done, what is opened behind a crash is the same as the model's.
		b.tapes(func(x *tape.Tape) { x.Crash(3) })
		b.open(t)
		b.hold(t)
		if t.Failed() {
			t.Fatalf("row %d", row)
		}
	}
}
