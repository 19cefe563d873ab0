package tape

import (
	"math"
	"testing"

	"flitting/api"
)

// model is a tape told another way: what each side's Read tells, and what a crash would make of that.
type model struct {
	tells  [2]string
	behind [2]func(keep int) string
	lost   [2]bool
	// left is how many sides' writes are done yet; below 0, if there is no fuse.
	left int
	down bool
}

func newModel() *model {
	return &model{behind: [2]func(int) string{same(""), same("")}, left: -1}
}

// same is that, whatever a crash keeps.
func same(text string) func(int) string {
	return func(int) string { return text }
}

func (m *model) set(side int, text string) {
	m.tells[side], m.behind[side] = text, same(text)
}

// write is what is told of a side behind a write, and what of that lasts if the power goes in it.
type write func(was string) (now string, loose func(keep int) string)

func appending(b string) write {
	return func(was string) (string, func(int) string) {
		return was + b, func(keep int) string {
			text := was
			for at := 0; at < len(b) && at < keep; at++ {
				text += b[at : at+1]
			}
			return text
		}
	}
}

func replacing(b string) write {
	return func(was string) (string, func(int) string) {
		return b, func(keep int) string {
			if keep%2 == 0 {
				return was
			}
			return b
		}
	}
}

func (m *model) write(w write) api.Errno {
	if m.down {
		return api.ErrDown
	}
	if m.lost == [2]bool{true, true} {
		return api.ErrLost
	}
	for side, lost := range m.lost {
		if lost {
			continue
		}
		now, loose := w(m.tells[side])
		if m.left == 0 {
			m.tells[side], m.behind[side], m.down = now, loose, true
			return api.ErrDown
		}
		if m.left > 0 {
			m.left--
		}
		m.set(side, now)
	}
	return api.OK
}

func (m *model) read(side int) (string, api.Errno) {
	if side != 0 && side != 1 {
		return "", api.ErrArg
	}
	if m.lost[side] {
		return "", api.ErrLost
	}
	return m.tells[side], api.OK
}

func (m *model) spoil(side int, b string) {
	if side == 0 || side == 1 {
		m.set(side, b)
	}
}

func (m *model) lose(side int) {
	if side == 0 || side == 1 {
		m.lost[side] = true
	}
}

func (m *model) fuse(writes int) {
	if writes < 0 {
		writes = 0
	}
	m.left = writes
}

func (m *model) crash(keep int) {
	for side := range 2 {
		m.set(side, m.behind[side](keep))
	}
	m.left, m.down = -1, false
}

// hold holds what both sides tell, and those beside them, against m.
func hold(t *testing.T, x *Tape, m *model) {
	t.Helper()
	for side := -1; side <= 2; side++ {
		want, e := m.read(side)
		holdRead(t, x, side, want, e)
	}
}

// next goes on with seed, and is a number below n.
func next(seed *uint64, n int) int {
	*seed = *seed*6364136223846793005 + 1442695040888963407
	return int(*seed >> 33 % uint64(n))
}

// text is some bytes, at times none, that follow a rule.
func text(seed *uint64) string {
	b := make([]byte, next(seed, 6))
	for at := range b {
		b[at] = byte(next(seed, 256))
	}
	return string(b)
}

// number is mostly a small one, at times one of int's ends, or beside them.
func number(seed *uint64) int {
	ends := []int{math.MinInt, math.MinInt + 1, math.MaxInt - 1, math.MaxInt}
	if next(seed, 8) == 0 {
		return ends[next(seed, len(ends))]
	}
	return next(seed, 10) - 2
}

// step does the same call on x and on m.
func step(t *testing.T, seed *uint64, x *Tape, m *model, losses int) {
	t.Helper()
	switch kind := next(seed, 100); {
	case kind < losses:
		side := next(seed, 4) - 1
		x.Lose(side)
		m.lose(side)
	case kind < 10:
		side, b := next(seed, 4)-1, text(seed)
		x.Spoil(side, []byte(b))
		m.spoil(side, b)
	case kind < 25:
		writes := number(seed)
		x.Fuse(writes)
		m.fuse(writes)
	case kind < 40:
		keep := number(seed)
		x.Crash(keep)
		m.crash(keep)
	case kind < 60:
		b := text(seed)
		holdReplace(t, x, b, m.write(replacing(b)))
	default:
		b := text(seed)
		holdAppend(t, x, b, m.write(appending(b)))
	}
}

// Whatever calls come one behind the other, two tapes tell the same as the model.
func TestManyCalls(t *testing.T) {
	for run := range uint64(1000) {
		seed := run
		again := seed
		losses := int(run % 4)
		x, m := New(), newModel()
		x2, m2 := New(), newModel()
		for range 200 {
			step(t, &seed, x, m, losses)
			step(t, &again, x2, m2, losses)
			hold(t, x, m)
			hold(t, x2, m)
			if t.Failed() {
				t.Fatalf("run %d", run)
			}
		}
	}
}

// calls is each call that matters to the others, with numbers around their ends.
func calls() []func(x *Tape, m *model) (got, want api.Errno) {
	quiet := func(on func(*Tape), like func(*model)) func(*Tape, *model) (api.Errno, api.Errno) {
		return func(x *Tape, m *model) (api.Errno, api.Errno) {
			on(x)
			like(m)
			return api.OK, api.OK
		}
	}
	all := []func(*Tape, *model) (api.Errno, api.Errno){
		func(x *Tape, m *model) (api.Errno, api.Errno) {
			return x.Append([]byte("ab")), m.write(appending("ab"))
		},
		func(x *Tape, m *model) (api.Errno, api.Errno) {
			return x.Replace([]byte("c")), m.write(replacing("c"))
		},
	}
	for side := range 2 {
		all = append(all,
			quiet(func(x *Tape) { x.Lose(side) }, func(m *model) { m.lose(side) }),
			quiet(func(x *Tape) { x.Spoil(side, []byte("d")) }, func(m *model) { m.spoil(side, "d") }))
	}
	for n := range 3 {
		all = append(all, quiet(func(x *Tape) { x.Fuse(n) }, func(m *model) { m.fuse(n) }))
	}
	for _, n := range []int{0, 1} {
		all = append(all, quiet(func(x *Tape) { x.Crash(n) }, func(m *model) { m.crash(n) }))
	}
	return all
}

// All rows of five calls.
func TestAllShortRows(t *testing.T) {
	all := calls()
	const long = 5
	rows := 1
	for range long {
		rows *= len(all)
	}
	for row := range rows {
		x, m := New(), newModel()
		x.Append([]byte("z"))
		m.write(appending("z"))
		for at, rest := 0, row; at < long; at, rest = at+1, rest/len(all) {
			if got, want := all[rest%len(all)](x, m); got != want {
				t.Errorf("call %d of row %d: %d, want %d", at, row, got, want)
			}
			hold(t, x, m)
		}
		if t.Failed() {
			t.Fatalf("row %d", row)
		}
	}
}
