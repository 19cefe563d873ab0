package shard

import (
	"testing"

	"flitting/api"
	"flitting/pool"
	"flitting/rs"
)

// seeded is a row of numbers that follow a rule.
type seeded uint64

// below is the next number of the row, from 0 to below n.
func (s *seeded) below(n int) int {
	*s = *s*6364136223846793005 + 1442695040888963407
	return int(uint64(*s) >> 33 % uint64(n))
}

// whose is a shard: its drive, stripe and pos.
type whose [3]int

// model is a pool as what is there and what lasts of it; each drive has room for all.
type model struct {
	now, lasting map[whose]string
	lost         map[int]bool
}

func (m *model) settle(n int) {
	for stripe := range stripes {
		for pos := range places {
			at := whose{n, stripe, pos}
			if b, ok := m.now[at]; ok {
				m.lasting[at] = b
			} else {
				delete(m.lasting, at)
			}
		}
	}
}

// back is what is there behind a crash that keeps nothing.
func (m *model) back() {
	m.now = map[whose]string{}
	for at, b := range m.lasting {
		m.now[at] = b
	}
}

const (
	stripes = 3
	places  = 4
	many    = 5
)

func (m *model) whole(s api.Stripe) bool {
	count := 0
	for pos, n := range s.Locs {
		if _, ok := m.lasting[whose{n, s.ID, pos}]; ok && !m.lost[n] {
			count++
		}
	}
	return count == len(s.Locs)
}

func (m *model) shards(s api.Stripe) [][]byte {
	list := make([][]byte, len(s.Locs))
	for pos, n := range s.Locs {
		if b := m.now[whose{n, s.ID, pos}]; len(b) == 8 && !m.lost[n] {
			list[pos] = []byte(b)
		}
	}
	return list
}

// hold holds all that is told of s against m.
func (m *model) hold(t *testing.T, p *pool.Pool, k, more int, s api.Stripe) {
	t.Helper()
	want, e := rs.Decode(k, more, m.shards(s))
	holdRead(t, p, k, more, s, string(want), e)
	for at := -1; at <= places; at++ {
		want, e := rs.Rebuild(k, more, m.shards(s), at)
		holdOne(t, p, k, more, s, at, want, e)
	}
	holdWhole(t, p, s, m.whole(s))
}

// shard is bytes to be stored: mostly so many as a shard has.
func (s *seeded) shard() string {
	length := 8
	if s.below(4) == 0 {
		length = s.below(20)
	}
	b := make([]byte, length)
	for at := range b {
		b[at] = byte(s.below(256))
	}
	return string(b)
}

// step does the same on p and on m.
func (s *seeded) step(t *testing.T, p *pool.Pool, m *model) {
	t.Helper()
	n, stripe, pos := s.below(many), s.below(stripes), s.below(places)
	switch kind := s.below(200); {
	case kind == 0:
		p.Drive(n).Lose()
		m.lost[n] = true
	case kind < 6:
		p.Crash(0)
		m.back()
	case m.lost[n]:
	case kind < 60:
		flush(t, p, n)
		m.settle(n)
	case kind < 90:
		p.Erase(n, stripe, pos)
		delete(m.now, whose{n, stripe, pos})
	default:
		b := s.shard()
		store(t, p, n, stripe, pos, []byte(b))
		m.now[whose{n, stripe, pos}] = b
	}
}

// TestLongRows holds what is told of stripes, while their shards come, go and last, against the model.
func TestLongRows(t *testing.T) {
	seed := seeded(15)
	read, whole := 0, 0
	for range 60 {
		p, m := drives(t, many, stripes*places), &model{map[whose]string{}, map[whose]string{}, map[int]bool{}}
		for range 400 {
			seed.step(t, p, m)
			k, more := 1+seed.below(3), seed.below(3)
			s := api.Stripe{ID: seed.below(stripes + 1), Epoch: seed.below(9)}
			for len(s.Locs) < k+more || seed.below(20) == 0 {
				s.Locs = append(s.Locs, seed.below(many))
			}
			m.hold(t, p, k, more, s)
			if _, e := Read(p, k, more, s); e == api.OK {
				read++
			}
			if Whole(p, s) {
				whole++
			}
		}
	}
	if read < 1000 || whole < 1000 {
		t.Errorf("only %d were read, and %d whole", read, whole)
	}
}
