package wal

import (
	"encoding/binary"
	"encoding/hex"
	"hash/crc32"
	"math"
	"slices"
	"strings"
	"testing"

	"flitting/api"
	"flitting/rec"
	"flitting/tape"
)

// ordinary are records as a store has them.
func ordinary() []api.Rec {
	stripes := []api.Stripe{{ID: 48, Epoch: 2, Locs: []int{4, 0, 1}}, {ID: 49, Epoch: 2, Locs: []int{1, 3, 0}}}
	return []api.Rec{
		{Kind: api.RecPool, ID: 1, Drives: []int{api.In, api.In, api.Draining, api.Gone}},
		{Kind: api.RecPut, Key: "key", ID: 3, Size: 20, Stripes: stripes},
		{Kind: api.RecDel, Key: "key", ID: 5},
		{Kind: api.RecMove, Stripes: stripes[1:]},
		{Kind: api.RecAll, ID: 5, Size: 2, Drives: []int{1, 1, 1}, Objects: []api.Object{{Key: "\x00\xff", ID: 4}, {Key: "key", ID: 3, Size: 20, Stripes: stripes}}},
	}
}

// sized is a record that has just so many bytes, from 14 on: 14 that each has, 10 for each object but its key, and keys.
func sized(size int) api.Rec {
	r := api.Rec{Kind: api.RecAll, Objects: make([]api.Object, (size-14)/10)}
	for n := range r.Objects {
		r.Objects[n].ID = n
	}
	r.Key = "123456789"[:(size-14)%10]
	return r
}

func sameList(a, b []api.Rec) bool {
	return slices.EqualFunc(a, b, rec.Same)
}

func holdSide(t *testing.T, x *tape.Tape, side int, want string, e api.Errno) {
	t.Helper()
	if got, ge := x.Read(side); ge != e || string(got) != want {
		t.Errorf("side %d has %q, %d, want %q, %d", side, got, ge, want, e)
	}
}

// holdSides holds what both sides have that are not lost.
func holdSides(t *testing.T, x *tape.Tape, first, second string) {
	t.Helper()
	holdSide(t, x, 0, first, api.OK)
	holdSide(t, x, 1, second, api.OK)
}

func holdSize(t *testing.T, l *Log, want int) {
	t.Helper()
	if got := l.Size(); got != want {
		t.Errorf("Size = %d, want %d", got, want)
	}
}

// holdOpen opens x, which has just these records, and holds that.
func holdOpen(t *testing.T, x *tape.Tape, want ...api.Rec) *Log {
	t.Helper()
	l, list, e := Open(x)
	if l == nil || e != api.OK || !sameList(list, want) {
		t.Fatalf("Open = %v, %v, %d, want a log, %v, OK", l, list, e, want)
	}
	holdSize(t, l, len(rowOf(want...)))
	return l
}

// holdNoOpen holds that x is not opened, and that there is nothing beside the error.
func holdNoOpen(t *testing.T, x *tape.Tape, want api.Errno) {
	t.Helper()
	if l, list, e := Open(x); l != nil || len(list) != 0 || e != want {
		t.Errorf("Open = %v, %v, %d, want nothing, %d", l, list, e, want)
	}
}

func holdAppend(t *testing.T, l *Log, r api.Rec, want api.Errno) {
	t.Helper()
	if got := l.Append(r); got != want {
		t.Errorf("Append(%v) = %d, want %d", r, got, want)
	}
}

func holdCheckpoint(t *testing.T, l *Log, r api.Rec, want api.Errno) {
	t.Helper()
	if got := l.Checkpoint(r); got != want {
		t.Errorf("Checkpoint(%v) = %d, want %d", r, got, want)
	}
}

func holdScan(t *testing.T, what, b string, want ...api.Rec) {
	t.Helper()
	if list, taken := Scan([]byte(b)); !sameList(list, want) || taken != len(rowOf(want...)) {
		t.Errorf("Scan of %s, %.99q = %v, %d, want %v, %d", what, b, list, taken, want, len(rowOf(want...)))
	}
}

// opened is a tape that has these records, and its log.
func opened(t *testing.T, list ...api.Rec) (*tape.Tape, *Log) {
	t.Helper()
	x := tape.New()
	x.Append([]byte(rowOf(list...)))
	return x, holdOpen(t, x, list...)
}

// The document's example.
func TestExample(t *testing.T) {
	for _, r := range ordinary() {
		x := tape.New()
		holdAppend(t, holdOpen(t, x), r, api.OK)
		holdOpen(t, x, r)
	}
}

// Entries to the byte: how many, the sum, the record.
func TestKnown(t *testing.T) {
	for _, c := range []struct {
		r    api.Rec
		want string
	}{
		{api.Rec{Kind: 1}, "0000000e fbab938e 01 00000000 00000000 00 00 0000 00"},
		{api.Rec{Kind: 2, ID: 5, Key: "key"}, "00000011 99e861ff 02 00000005 00000000 03 6b6579 00 0000 00"},
	} {
		want, err := hex.DecodeString(strings.ReplaceAll(c.want, " ", ""))
		if err != nil {
			t.Fatal(err)
		}
		x, l := opened(t)
		holdAppend(t, l, c.r, api.OK)
		holdSides(t, x, string(want), string(want))
		holdAppend(t, l, c.r, api.OK)
		holdSides(t, x, string(want)+string(want), string(want)+string(want))
		holdCheckpoint(t, l, c.r, api.OK)
		holdSides(t, x, string(want), string(want))
		holdScan(t, "a known entry", string(want), c.r)
	}
}

// Entries of more bytes than stand in one, or in two.
func TestLengths(t *testing.T) {
	for _, size := range []int{14, 15, 100, 254, 255, 256, 257, 511, 512, 1 << 12, api.MaxRecord - 1, api.MaxRecord} {
		r := sized(size)
		if len(bytesOf(r)) != size {
			t.Fatalf("a record of %d bytes", len(bytesOf(r)))
		}
		x, l := opened(t)
		holdAppend(t, l, r, api.OK)
		holdSides(t, x, rowOf(r), rowOf(r))
		holdSize(t, l, 8+size)
		holdOpen(t, x, r)
		holdScan(t, "one record", rowOf(r), r)
		holdScan(t, "one record, cut", rowOf(r)[:size+7])
		holdScan(t, "two records", rowOf(r, r), r, r)
	}
}

// Of entries, wherever they are cut, the whole ones.
func TestScanCut(t *testing.T) {
	list := ordinary()
	row, ends := "", []int{0}
	for _, r := range list {
		row += framed(bytesOf(r))
		ends = append(ends, len(row))
	}
	whole := 0
	for cut := range len(row) + 1 {
		if whole < len(list) && cut == ends[whole+1] {
			whole++
		}
		holdScan(t, "cut entries", row[:cut], list[:whole]...)
	}
	if whole != len(list) {
		t.Error("not all were told")
	}
	for _, b := range [][]byte{nil, {}} {
		if got, taken := Scan(b); len(got) != 0 || taken != 0 {
			t.Errorf("Scan of nothing = %v, %d", got, taken)
		}
	}
}

// One bit that is turned ends the row at its entry.
func TestScanTurned(t *testing.T) {
	list := ordinary()
	row := rowOf(list...)
	for at := range 8 * len(row) {
		b := []byte(row)
		b[at/8] ^= 1 << (at % 8)
		whole := 0
		for len(rowOf(list[:whole+1]...)) <= at/8 {
			whole++
		}
		holdScan(t, "entries with a bit turned", string(b), list[:whole]...)
	}
}

// misframed is an entry whose parts are told one by one.
func misframed(size, sum uint32, record string) string {
	b := binary.BigEndian.AppendUint32(nil, size)
	return string(binary.BigEndian.AppendUint32(b, sum)) + record
}

func castagnoli(text string) uint32 {
	return crc32.Checksum([]byte(text), crc32.MakeTable(crc32.Castagnoli))
}

// wrongs are bytes at whose front is no entry, by what is wrong.
func wrongs() map[string]string {
	record := string(bytesOf(api.Rec{Kind: 2, ID: 5, Key: "key"}))
	entry := framed([]byte(record))
	size, sum := uint32(len(record)), binary.BigEndian.Uint32([]byte(entry[4:]))
	little := string(binary.LittleEndian.AppendUint32(nil, size))
	long := strings.Repeat("l", api.MaxRecord+1)
	all := map[string]string{
		"noughts":                    strings.Repeat("\x00", 100),
		"ones":                       strings.Repeat("\xff", 100),
		"text":                       "all that is written here is no entry at all",
		"a byte ahead":               "\x00" + entry,
		"no record":                  framed(nil),
		"no record's bytes":          framed([]byte("no record")),
		"a record without its end":   framed([]byte(record[:len(record)-1])),
		"a record and a byte":        framed([]byte(record + "\x00")),
		"two records":                framed([]byte(record + record)),
		"no kind":                    framed([]byte("\x00" + record[1:])),
		"too long a record":          framed([]byte(long)),
		"a sum of the record":        misframed(size, castagnoli(record), record),
		"a sum behind the record":    misframed(size, castagnoli(record+entry[:4]), record),
		"another polynomial's sum":   misframed(size, crc32.ChecksumIEEE([]byte(entry[:4]+record)), record),
		"no sum":                     misframed(size, 0, record),
		"the sum's ones turned":      misframed(size, ^sum, record),
		"the sum about":              entry[:4] + entry[7:8] + entry[6:7] + entry[5:6] + entry[4:5] + record,
		"how many, the lowest first": little + string(binary.BigEndian.AppendUint32(nil, castagnoli(little+record))) + record,
		"the sum first":              entry[4:8] + entry[:4] + record,
		"the record first":           record + entry[:8],
		"how many bytes in all":      misframed(size+8, castagnoli(misframed(size+8, 0, "")[:4]+record), record),
	}
	for name, size := range map[string]uint32{
		"all ones": math.MaxUint32, "the highest bit": 1 << 31, "all but that": math.MaxInt32, "minus eight": 1<<32 - 8, "minus seven": 1<<32 - 7, "MaxRecord, cut": api.MaxRecord,
	} {
		four := string(binary.BigEndian.AppendUint32(nil, size))
		all["how many: "+name] = four + string(binary.BigEndian.AppendUint32(nil, castagnoli(four+record))) + record
	}
	return all
}

// What is behind that which is no entry does not count.
func TestScanWrong(t *testing.T) {
	list := ordinary()
	for what, b := range wrongs() {
		for whole := range 3 {
			row := rowOf(list[:whole]...)
			holdScan(t, what, row+b, list[:whole]...)
			holdScan(t, what, row+b+row, list[:whole]...)
		}
	}
}

// Such bytes on the tape end in what is opened of it, too.
func TestOpenWrong(t *testing.T) {
	list := ordinary()[:2]
	for what, b := range wrongs() {
		for whole := range 3 {
			row := rowOf(list[:whole]...)
			x := tape.New()
			x.Append([]byte(row + b))
			l := holdOpen(t, x, list[:whole]...)
			holdSides(t, x, row, row)
			holdAppend(t, l, list[0], api.OK)
			holdSides(t, x, row+rowOf(list[0]), row+rowOf(list[0]))
			if t.Failed() {
				t.Fatal(what)
			}
		}
	}
}

// Any bytes, mostly small numbers, against the model.
func TestScanAny(t *testing.T) {
	seed := seeded(1)
	for range 3000 {
		var list []api.Rec
		for range seed.below(4) {
			list = append(list, ordinary()[seed.below(5)])
		}
		b := []byte(rowOf(list...))
		for range seed.below(3) {
			b = seed.spoilt(b)
		}
		want, _ := scanned(string(b))
		holdScan(t, "any bytes", string(b), want...)
	}
}

func TestScanMany(t *testing.T) {
	var want []api.Rec
	for id := range 3000 {
		want = append(want, api.Rec{Kind: api.RecDel, ID: id, Key: "many"})
	}
	holdScan(t, "many entries", rowOf(want...)+"!", want...)
}

func TestOpenNew(t *testing.T) {
	for _, x := range []*tape.Tape{tape.New(), {}} {
		// What is as it should be is not written to.
		x.Fuse(0)
		l := holdOpen(t, x)
		holdSides(t, x, "", "")
		holdSize(t, l, 0)
		x.Crash(0)
		holdAppend(t, l, ordinary()[0], api.OK)
	}
	x := tape.New()
	if holdOpen(t, x) == holdOpen(t, x) {
		t.Error("two logs are one")
	}
}

func TestNil(t *testing.T) {
	holdNoOpen(t, nil, api.ErrArg)
	var l *Log
	for range 2 {
		for _, r := range append(ordinary(), api.Rec{}, sized(api.MaxRecord+1)) {
			holdAppend(t, l, r, api.ErrArg)
			holdCheckpoint(t, l, r, api.ErrArg)
			holdSize(t, l, 0)
		}
	}
	// A log that nobody opened has no tape.
	l = &Log{}
	holdAppend(t, l, ordinary()[0], api.ErrArg)
	holdCheckpoint(t, l, ordinary()[0], api.ErrArg)
	holdSize(t, l, 0)
}

func TestOpenLost(t *testing.T) {
	for side := range 2 {
		x, l := opened(t, ordinary()...)
		x.Lose(side)
		holdOpen(t, x, ordinary()...)
		x.Lose(1 - side)
		for _, then := range []func(){
			func() {}, func() { x.Spoil(0, []byte(rowOf(ordinary()...))) }, func() { x.Fuse(0) }, func() { x.Crash(1) },
		} {
			then()
			holdNoOpen(t, x, api.ErrLost)
		}
		holdAppend(t, l, ordinary()[0], api.ErrLost)
		holdCheckpoint(t, l, ordinary()[0], api.ErrLost)
		// Nothing is told to be down by that.
		holdAppend(t, l, api.Rec{}, api.ErrForm)
		holdAppend(t, l, ordinary()[0], api.ErrLost)
		holdSize(t, l, len(rowOf(ordinary()...)))
	}
	x, _ := opened(t)
	x.Fuse(0)
	x.Append(nil)
	x.Lose(0)
	x.Lose(1)
	holdNoOpen(t, x, api.ErrLost)
}

// content is what a side may have: so many records, and what is behind them.
type content struct {
	list []api.Rec
	tail string
}

func (c content) bytes() string {
	return rowOf(c.list...) + c.tail
}

func contents() []content {
	a, b, c := ordinary()[0], ordinary()[1], ordinary()[2]
	z := api.Rec{Kind: a.Kind, ID: a.ID + 1, Drives: a.Drives}
	entry := rowOf(b)
	return []content{
		{}, {tail: "!"}, {tail: rowOf(c)[:9]},
		{list: []api.Rec{a}}, {list: []api.Rec{z}}, {[]api.Rec{a}, entry[:1]}, {[]api.Rec{a}, entry[:len(entry)-1]}, {[]api.Rec{z}, "?"},
		{[]api.Rec{a}, strings.Repeat("x", 300)},
		{list: []api.Rec{a, b}}, {list: []api.Rec{a, b, c}}, {[]api.Rec{a, b, c}, strings.Repeat("\x00", 40)},
		// One record of more bytes than those: bytes count, not records.
		{list: []api.Rec{sized(900)}},
	}
}

// pair is a tape whose sides have these; of lost, 0 or 1, that one is lost.
func pair(first, second content, lost int) *tape.Tape {
	x := tape.New()
	x.Spoil(0, []byte(first.bytes()))
	x.Spoil(1, []byte(second.bytes()))
	x.Lose(lost)
	return x
}

// best is which of both a tape is opened by, and how many sides are written for that.
func best(first, second content, lost int) (content, int) {
	sides := []content{first, second}
	most, left := first, 2
	if lost == 0 || lost == -1 && len(rowOf(second.list...)) > len(rowOf(first.list...)) {
		most = second
	}
	if lost >= 0 {
		left = 1
	}
	for n, side := range sides {
		if n != lost && side.bytes() != rowOf(most.list...) {
			return most, left
		}
	}
	return most, 0
}

// eachPair does that for all pairs of contents, and each loss.
func eachPair(t *testing.T, do func(first, second content, lost int)) {
	t.Helper()
	for a, first := range contents() {
		for b, second := range contents() {
			for lost := -1; lost < 2; lost++ {
				do(first, second, lost)
				if t.Failed() {
					t.Fatalf("sides %d and %d, lost %d", a, b, lost)
				}
			}
		}
	}
}

// The side of which more bytes are entries, whatever else stands there; both sides have just these then.
func TestOpenMost(t *testing.T) {
	eachPair(t, func(first, second content, lost int) {
		most, writes := best(first, second, lost)
		row := rowOf(most.list...)
		x := pair(first, second, lost)
		// Just so much power is taken.
		x.Fuse(writes)
		l := holdOpen(t, x, most.list...)
		for side := range 2 {
			if side == lost {
				holdSide(t, x, side, "", api.ErrLost)
			} else {
				holdSide(t, x, side, row, api.OK)
			}
		}
		holdAppend(t, l, ordinary()[0], api.ErrDown)
		x.Crash(0)
		// Nothing of what was opened is loose.
		l = holdOpen(t, x, most.list...)
		x.Fuse(4)
		holdAppend(t, l, ordinary()[3], api.OK)
		holdOpen(t, x, append(slices.Clone(most.list), ordinary()[3])...)
	})
}

// Where the power goes in it, or behind it, and whatever lasts: opened again, it is the same.
func TestOpenDown(t *testing.T) {
	eachPair(t, func(first, second content, lost int) {
		most, writes := best(first, second, lost)
		for fuse := range writes {
			for keep := range 4 {
				x := pair(first, second, lost)
				x.Fuse(fuse)
				holdNoOpen(t, x, api.ErrDown)
				x.Crash(keep)
				x.Fuse(keep / 2)
				Open(x)
				x.Crash(fuse)
				holdOpen(t, x, most.list...)
				for side := range 2 {
					if side != lost {
						holdSide(t, x, side, rowOf(most.list...), api.OK)
					}
				}
			}
		}
	})
}

// Without power a tape is opened that needs no write.
func TestOpenPowerGone(t *testing.T) {
	list := ordinary()
	x, l := opened(t, list[0])
	x.Fuse(1)
	holdAppend(t, l, list[1], api.ErrDown)
	l = holdOpen(t, x, list[0], list[1])
	holdAppend(t, l, list[2], api.ErrDown)
	x.Crash(0)
	holdOpen(t, x, list[0], list[1])
	x.Fuse(0)
	holdAppend(t, holdOpen(t, x, list[0], list[1]), list[2], api.ErrDown)
	// Side 0 has it loosely, so that side 1 has others.
	holdNoOpen(t, x, api.ErrDown)
	x.Crash(1)
	holdOpen(t, x, list[0], list[1])
}

func TestAppend(t *testing.T) {
	x, l := opened(t)
	var has []api.Rec
	for range 3 {
		for _, r := range ordinary() {
			holdAppend(t, l, r, api.OK)
			has = append(has, r)
			holdSize(t, l, len(rowOf(has...)))
			holdSides(t, x, rowOf(has...), rowOf(has...))
			holdOpen(t, x, has...)
		}
		// Nothing of it is loose.
		x.Crash(0)
		holdSides(t, x, rowOf(has...), rowOf(has...))
		l = holdOpen(t, x, has...)
	}
}

func TestCheckpoint(t *testing.T) {
	for _, first := range ordinary() {
		for _, r := range ordinary() {
			x, l := opened(t, first, first)
			holdCheckpoint(t, l, r, api.OK)
			holdSize(t, l, len(rowOf(r)))
			holdSides(t, x, rowOf(r), rowOf(r))
			holdAppend(t, l, first, api.OK)
			holdSize(t, l, len(rowOf(r, first)))
			x.Crash(0)
			holdSides(t, x, rowOf(r, first), rowOf(r, first))
			holdOpen(t, x, r, first)
		}
	}
}

// unfit are records that are none, or too large, and their errors.
func unfit() map[*api.Rec]api.Errno {
	return map[*api.Rec]api.Errno{
		{}:                                  api.ErrForm,
		{Kind: 6}:                           api.ErrForm,
		{Kind: -1}:                          api.ErrForm,
		{Kind: 1, ID: -1}:                   api.ErrForm,
		{Kind: 1, ID: api.MaxID + 1}:        api.ErrForm,
		{Kind: 1, Key: "12345678901234567"}: api.ErrForm,
		{Kind: 1, Drives: make([]int, 256)}: api.ErrForm,
		{Kind: 5, Objects: make([]api.Object, 65536)}:                             api.ErrForm,
		{Kind: 5, Objects: make([]api.Object, 65535)}:                             api.ErrTooLarge,
		{Kind: 5, Key: "1234567890123456", Objects: sized(api.MaxRecord).Objects}: api.ErrTooLarge,
	}
}

// What is refused changes nothing, and takes no power.
func TestUnfit(t *testing.T) {
	list := ordinary()[:2]
	x, l := opened(t, list...)
	x.Fuse(0)
	for r, want := range unfit() {
		holdAppend(t, l, *r, want)
		holdCheckpoint(t, l, *r, want)
		holdSides(t, x, rowOf(list...), rowOf(list...))
		holdSize(t, l, len(rowOf(list...)))
	}
	x.Fuse(2)
	holdAppend(t, l, list[0], api.OK)
	holdOpen(t, x, append(list, list[0])...)
	if got := sized(api.MaxRecord + 1); l.Append(got) != api.ErrTooLarge || l.Checkpoint(got) != api.ErrTooLarge {
		t.Error("one byte too many")
	}
}

// full is a log that has just so many bytes.
func full(t *testing.T, size int) (*tape.Tape, *Log, []api.Rec) {
	t.Helper()
	var list []api.Rec
	for size > 0 {
		next := size
		if next > 4000 {
			next = 2000
		}
		list = append(list, sized(next-8))
		size -= next
	}
	x, l := opened(t, list...)
	return x, l, list
}

// The tape has at most MaxTape bytes: to the last byte of these, and no more.
func TestFull(t *testing.T) {
	for _, size := range []int{14, 15, 100, 1000, api.MaxRecord - 1, api.MaxRecord} {
		entry := size + 8
		for more := -3; more <= 3; more++ {
			x, l, list := full(t, api.MaxTape-entry+more)
			had := l.Size()
			if more <= 0 {
				holdAppend(t, l, sized(size), api.OK)
				holdSize(t, l, api.MaxTape+more)
				holdOpen(t, x, append(list, sized(size))...)
				continue
			}
			// Nothing is done, and no power taken.
			x.Fuse(2)
			for range 3 {
				holdAppend(t, l, sized(size), api.ErrFull)
			}
			holdSize(t, l, had)
			holdSides(t, x, rowOf(list...), rowOf(list...))
			if size > 14+more {
				holdAppend(t, l, sized(size-more), api.OK)
				holdSize(t, l, api.MaxTape)
			}
			holdAppend(t, l, sized(14+more), api.ErrFull)
			x.Crash(0)
			holdCheckpoint(t, l, sized(size), api.OK)
			holdSize(t, l, entry)
			holdAppend(t, l, sized(14), api.OK)
			holdOpen(t, x, sized(size), sized(14))
		}
	}
}

// A log that is filled from nothing, whatever it was opened with, has the same bound.
func TestFillUp(t *testing.T) {
	r := sized(92)
	x, l := opened(t)
	for range api.MaxTape / 100 {
		holdAppend(t, l, r, api.OK)
	}
	holdSize(t, l, 16300)
	holdAppend(t, l, r, api.ErrFull)
	holdAppend(t, l, sized(77), api.ErrFull)
	holdAppend(t, l, sized(76), api.OK)
	holdAppend(t, l, sized(14), api.ErrFull)
	holdSize(t, l, api.MaxTape)
	again, list, _ := Open(x)
	holdAppend(t, again, sized(14), api.ErrFull)
	if len(list) != 164 {
		t.Errorf("%d records", len(list))
	}
	// The largest record has room in a Checkpoint, whatever was there.
	holdCheckpoint(t, again, sized(api.MaxRecord), api.OK)
	holdSize(t, again, api.MaxRecord+8)
}

// What was on the tape already is all told, even if that is more than MaxTape.
func TestOverfull(t *testing.T) {
	var list []api.Rec
	for range 25 {
		list = append(list, sized(992))
	}
	x, l := opened(t, list...)
	holdSize(t, l, 25000)
	holdAppend(t, l, sized(14), api.ErrFull)
	holdSides(t, x, rowOf(list...), rowOf(list...))
	holdCheckpoint(t, l, sized(14), api.OK)
	holdOpen(t, x, sized(14))
}

// Of several errors the first that the chapter names: the record's, then ErrFull, then the tape's.
func TestWhichError(t *testing.T) {
	for r, want := range unfit() {
		x, l, _ := full(t, api.MaxTape)
		x.Fuse(0)
		holdAppend(t, l, *r, want)
		holdAppend(t, l, sized(14), api.ErrFull)
		x.Lose(0)
		x.Lose(1)
		holdAppend(t, l, *r, want)
		holdCheckpoint(t, l, *r, want)
		holdAppend(t, l, sized(14), api.ErrFull)
		holdCheckpoint(t, l, sized(14), api.ErrLost)
	}
}

// The power that is gone, though this log has not been told yet, is the last to be told.
func TestPowerGone(t *testing.T) {
	x, l, list := full(t, api.MaxTape)
	other := holdOpen(t, x, list...)
	x.Fuse(0)
	holdCheckpoint(t, other, sized(14), api.ErrDown)
	holdAppend(t, l, api.Rec{}, api.ErrForm)
	holdAppend(t, l, sized(14), api.ErrFull)
	holdCheckpoint(t, l, sized(14), api.ErrDown)
	holdAppend(t, l, sized(14), api.ErrDown)
}

// write is Append, or Checkpoint.
type write func(l *Log, r api.Rec) api.Errno

func writes() []write {
	return []write{(*Log).Append, (*Log).Checkpoint}
}

// holdDown holds that l answers ErrDown, and does nothing, whatever it is told.
func holdDown(t *testing.T, x *tape.Tape, l *Log) {
	t.Helper()
	first, e0 := x.Read(0)
	second, e1 := x.Read(1)
	size := l.Size()
	for _, do := range writes() {
		for _, r := range append(ordinary(), api.Rec{}, api.Rec{Kind: 1, ID: -1}, sized(14), sized(api.MaxRecord), sized(api.MaxRecord+1)) {
			if e := do(l, r); e != api.ErrDown {
				t.Errorf("behind ErrDown: %d", e)
			}
		}
	}
	holdSide(t, x, 0, string(first), e0)
	holdSide(t, x, 1, string(second), e1)
	holdSize(t, l, size)
}

// Behind ErrDown a log answers that, also when the power is there again; one that is opened then does not.
func TestDown(t *testing.T) {
	for _, do := range writes() {
		for _, had := range []int{0, 22, 5000, api.MaxTape - 22} {
			for fuse := range 2 {
				x, l, _ := full(t, had)
				x.Fuse(fuse)
				if e := do(l, sized(14)); e != api.ErrDown {
					t.Errorf("the power goes: %d", e)
				}
				holdSize(t, l, had)
				holdDown(t, x, l)
				x.Fuse(9)
				holdDown(t, x, l)
				x.Crash(fuse)
				holdDown(t, x, l)
				next, _, e := Open(x)
				if e != api.OK {
					t.Fatalf("Open = %d", e)
				}
				holdCheckpoint(t, next, sized(15), api.OK)
				holdDown(t, x, l)
				holdAppend(t, next, sized(16), api.OK)
				holdOpen(t, x, sized(15), sized(16))
				x.Lose(0)
				x.Lose(1)
				holdDown(t, x, l)
			}
		}
	}
}

// kept is how much of b lasts by keep.
func kept(b string, keep int) string {
	return b[:max(0, min(keep, len(b)))]
}

// Wherever the power goes in an Append, and whatever lasts: all that was answered is there, and it wholly, or not at all.
func TestCrashAppend(t *testing.T) {
	a, b := ordinary()[0], ordinary()[1]
	row, entry := rowOf(a), rowOf(b)
	keeps := []int{math.MinInt, -1, math.MaxInt}
	for keep := range len(entry) + 2 {
		keeps = append(keeps, keep)
	}
	for fuse := range 4 {
		for _, keep := range keeps {
			x, l := opened(t, a)
			x.Fuse(fuse)
			want := api.ErrDown
			if fuse > 1 {
				want = api.OK
			}
			holdAppend(t, l, b, want)
			x.Crash(keep)
			first, second := row+entry, row+entry
			switch fuse {
			case 0:
				first, second = row+kept(entry, keep), row
			case 1:
				second = row + kept(entry, keep)
			}
			holdSides(t, x, first, second)
			lasts := []api.Rec{a, b}
			if fuse == 0 && keep < len(entry) {
				lasts = lasts[:1]
			}
			for range 2 {
				holdOpen(t, x, lasts...)
				holdSides(t, x, rowOf(lasts...), rowOf(lasts...))
			}
		}
	}
}

// Of a Checkpoint there is what it puts, or what was, whichever takes more bytes of the two sides; never anything else.
func TestCrashCheckpoint(t *testing.T) {
	small, large := sized(14), sized(500)
	for _, c := range []struct{ was, puts api.Rec }{{small, large}, {large, small}} {
		was, puts := rowOf(c.was), rowOf(c.puts)
		for fuse := range 4 {
			for _, keep := range []int{math.MinInt, math.MinInt + 1, -2, -1, 0, 1, 2, 3, math.MaxInt - 1, math.MaxInt} {
				lasts := keep%2 != 0
				x, l := opened(t, c.was)
				x.Fuse(fuse)
				want := api.ErrDown
				if fuse > 1 {
					want = api.OK
				}
				holdCheckpoint(t, l, c.puts, want)
				x.Crash(keep)
				first, second := puts, puts
				switch {
				case fuse == 0 && lasts:
					second = was
				case fuse == 0:
					first, second = was, was
				case fuse == 1 && !lasts:
					second = was
				}
				holdSides(t, x, first, second)
				is, most := c.puts, first
				if len(second) > len(first) {
					most = second
				}
				if most == was {
					is = c.was
				}
				holdOpen(t, x, is)
				holdSides(t, x, most, most)
			}
		}
	}
}

// One side is enough, and takes the half of the power.
func TestOneSide(t *testing.T) {
	a, b, c := ordinary()[0], ordinary()[1], ordinary()[2]
	for side := range 2 {
		x, l := opened(t, a)
		x.Lose(side)
		x.Fuse(2)
		holdAppend(t, l, b, api.OK)
		holdCheckpoint(t, l, c, api.OK)
		holdSide(t, x, side, "", api.ErrLost)
		holdSide(t, x, 1-side, rowOf(c), api.OK)
		holdAppend(t, l, b, api.ErrDown)
		x.Crash(len(rowOf(b)) - 1)
		holdOpen(t, x, c)
		x.Lose(1 - side)
		holdNoOpen(t, x, api.ErrLost)
	}
}

// What is handed in is not changed, spare room included, nor kept.
func TestMemoryIn(t *testing.T) {
	make2 := func() (api.Rec, []int, []api.Stripe) {
		locs := []int{1, 2, 3, 4, 5}
		stripes := []api.Stripe{{ID: 1, Locs: locs[:2]}, {ID: 7}, {ID: 8}}
		return api.Rec{Kind: 4, Drives: locs[2:4], Stripes: stripes[:1]}, locs, stripes
	}
	for _, do := range writes() {
		x, l := opened(t)
		r, locs, stripes := make2()
		if e := do(l, r); e != api.OK {
			t.Error(e)
		}
		if !slices.Equal(locs, []int{1, 2, 3, 4, 5}) || stripes[0].ID != 1 || stripes[1].ID != 7 || stripes[2].ID != 8 {
			t.Error("it was changed")
		}
		clear(locs)
		clear(stripes)
		same, _, _ := make2()
		holdOpen(t, x, same)
	}
}

func TestScanMemory(t *testing.T) {
	row := []byte(rowOf(ordinary()...))
	room := append(slices.Clone(row), "spare room"...)
	list, _ := Scan(room[:len(row)])
	if string(room) != string(row)+"spare room" {
		t.Error("what was handed in was changed")
	}
	clear(room)
	if !sameList(list, ordinary()) {
		t.Error("what was handed in was kept")
	}
	again, _ := Scan(row)
	spoil(list)
	if !sameList(again, ordinary()) {
		t.Error("two answers share memory")
	}
}

// spoil changes all that can be changed in records, spare room included.
func spoil(list []api.Rec) {
	ints := func(list []int) {
		list = list[:cap(list)]
		for n := range list {
			list[n] = -7
		}
	}
	stripes := func(list []api.Stripe) {
		list = list[:cap(list)]
		for n := range list {
			ints(list[n].Locs)
			list[n] = api.Stripe{ID: -7}
		}
	}
	for n := range list {
		ints(list[n].Drives)
		stripes(list[n].Stripes)
		for _, o := range list[n].Objects {
			stripes(o.Stripes)
		}
		clear(list[n].Objects[:cap(list[n].Objects)])
	}
	clear(list[:cap(list)])
}

// What is answered is new: whoever changes it, spare room included, changes nothing else.
func TestMemoryOut(t *testing.T) {
	x, l := opened(t, ordinary()...)
	_, list, _ := Open(x)
	_, other, _ := Open(x)
	spoil(list)
	if !sameList(other, ordinary()) {
		t.Error("two answers share memory")
	}
	holdSides(t, x, rowOf(ordinary()...), rowOf(ordinary()...))
	holdAppend(t, l, ordinary()[0], api.OK)
	holdOpen(t, x, append(ordinary(), ordinary()[0])...)
}

// Nothing is kept but in a log and its tape: logs of other tapes go on alone.
func TestApart(t *testing.T) {
	x, l := opened(t)
	x2, l2 := opened(t)
	x.Fuse(0)
	holdAppend(t, l, ordinary()[0], api.ErrDown)
	holdAppend(t, l2, ordinary()[1], api.OK)
	holdSides(t, x2, rowOf(ordinary()[1]), rowOf(ordinary()[1]))
	holdSides(t, x, rowOf(ordinary()[0]), "")
	holdOpen(t, x2, ordinary()[1])
}
