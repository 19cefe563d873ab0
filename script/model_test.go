package script

import (
	"encoding/hex"
	"fmt"
	"math"
	"math/big"
	"regexp"
	"slices"
	"strings"
	"testing"

	"flitting/api"
)

// seeded is a row of numbers that follow a rule.
type seeded uint64

// below is the next number of the row, from 0 to below n.
func (s *seeded) below(n int) int {
	*s = *s*6364136223846793005 + 1442695040888963407
	return int(uint64(*s) >> 33 % uint64(n))
}

// one is one of these.
func one[T any](s *seeded, of ...T) T {
	return of[s.below(len(of))]
}

// number is any int: near 0, near its ends, or anywhere.
func (s *seeded) number() int {
	bits := s.below(1<<31)<<33 ^ s.below(1<<31)<<7 ^ s.below(128)
	return one(s, s.below(12), -s.below(12), math.MaxInt64-s.below(12), math.MinInt64+s.below(12), bits, bits>>s.below(64))
}

// bytes is so many bytes, mostly such as a line has its own use for.
func (s *seeded) bytes(many int) []byte {
	b := make([]byte, many)
	for at := range b {
		b[at] = one(s, ' ', '\n', '\r', 'x', '-', '0', 'a', byte(s.below(256)), byte(s.below(256)))
	}
	return b
}

// steps is any steps.
func (s *seeded) steps(many int) []api.Step {
	list := make([]api.Step, many)
	for at := range list {
		list[at] = api.Step{
			Kind: s.number(),
			A:    s.number(),
			Key:  string(s.bytes(s.below(one(s, 1, 3, api.MaxKey+3)))),
			Data: s.bytes(s.below(one(s, 1, 3, api.MaxData+3))),
			Keep: uint64(s.number()),
		}
	}
	return list
}

// printed is Print, told another way.
func printed(list []api.Step) string {
	text := ""
	for _, s := range list {
		text += fmt.Sprintf("%d %d %d x%x x%x\n", s.Kind, s.A, s.Keep, s.Key, s.Data)
	}
	return text
}

// form is what a line without its end looks like.
var form = regexp.MustCompile(`\A(0|-?[1-9][0-9]*) (0|-?[1-9][0-9]*) (0|[1-9][0-9]*) x((?:[0-9a-f][0-9a-f])*) x((?:[0-9a-f][0-9a-f])*)\z`)

// whole is a number of any length.
func whole(text string) *big.Int {
	n, _ := new(big.Int).SetString(text, 10)
	return n
}

// step is the step whose line, without its end, this is.
func step(line string) (api.Step, bool) {
	part := form.FindStringSubmatch(line)
	if part == nil {
		return api.Step{}, false
	}
	kind, a, keep := whole(part[1]), whole(part[2]), whole(part[3])
	if !kind.IsInt64() || !a.IsInt64() || !keep.IsUint64() {
		return api.Step{}, false
	}
	key, _ := hex.DecodeString(part[4])
	data, _ := hex.DecodeString(part[5])
	return api.Step{Kind: int(kind.Int64()), A: int(a.Int64()), Key: string(key), Data: data, Keep: keep.Uint64()}, true
}

// parsed is Parse, told another way: the steps, and the number of the first line that is none.
func parsed(text string) ([]api.Step, int) {
	lines := strings.Split(text, "\n")
	last := len(lines) - 1
	var list []api.Step
	for at, line := range lines[:last] {
		s, ok := step(line)
		if !ok {
			return nil, at + 1
		}
		list = append(list, s)
	}
	if lines[last] != "" {
		return nil, last + 1
	}
	return list, 0
}

// holdModel holds what is read of any text against what is told another way, and tells whether it is steps.
func holdModel(t *testing.T, text string) bool {
	t.Helper()
	list, number := parsed(text)
	if number > 0 {
		holdNone(t, text, number)
		return false
	}
	hold(t, text, list...)
	return true
}

// P24.1: any steps, printed and read.
func TestModel(t *testing.T) {
	t.Parallel()
	for seed := range seeded(3000) {
		s := seed
		list := s.steps(s.below(9))
		hold(t, printed(list), list...)
	}
}

// base is lines that differ in all that a line may have.
func base() string {
	return "10 -1 0 x x00\n-9223372036854775808 9223372036854775807 18446744073709551615 x0a20ff x9f\n0 0 100 x61 x\n"
}

// P24.1: lines with any one byte taken away, put in, or in another's place.
func TestModelOne(t *testing.T) {
	t.Parallel()
	text := base()
	good := 0
	for at := range len(text) + 1 {
		if at < len(text) {
			holdModel(t, text[:at]+text[at+1:])
			holdModel(t, text[:at]+text[at:at+1]+text[at:])
		}
		for _, b := range all() {
			put := text[:at] + string([]byte{b}) + text[at:]
			if holdModel(t, put) {
				good++
			}
			if at < len(text) && holdModel(t, text[:at]+string([]byte{b})+text[at+1:]) {
				good++
			}
		}
	}
	if good < 500 {
		t.Errorf("only %d of those were steps", good)
	}
}

// spoil is a text with a piece of it taken away, put in once more, or another.
func (s *seeded) spoil(text string) string {
	from := s.below(len(text) + 1)
	to := min(from+s.below(one(s, 2, 5, len(text)+1)), len(text))
	switch s.below(4) {
	case 0:
		return text[:from] + text[to:]
	case 1:
		return text[:to] + text[from:]
	case 2:
		return text[:from] + one(s, " ", "\n", "x", "-", "0", "00", "1", "+", "A", "x x\n", "3 0 0 x x\n", "\xff", "\u0661") + text[from:]
	}
	return text[:from] + string(s.bytes(to-from)) + text[to:]
}

// P24.1: lines of any steps that were spoilt once and more, against what is told another way.
func TestModelSpoilt(t *testing.T) {
	t.Parallel()
	was := map[bool]int{}
	for seed := range seeded(4000) {
		s := seed
		text := printed(s.steps(1 + s.below(4)))
		for range 8 {
			text = s.spoil(text)
			was[holdModel(t, text)]++
		}
	}
	if was[true] < 500 || was[false] < 5000 {
		t.Errorf("so many were steps, and none: %v", was)
	}
}

// P24.1: all short texts of the bytes that a line has its use for, behind a line's beginning.
func TestModelShort(t *testing.T) {
	t.Parallel()
	const used = "0a1 x-\nA+"
	was := map[bool]int{}
	var tails []string
	for size, behind := 0, []string{""}; size < 5; size++ {
		tails = slices.Concat(tails, behind)
		var longer []string
		for _, tail := range behind {
			for at := range used {
				longer = append(longer, tail+used[at:at+1])
			}
		}
		behind = longer
	}
	for _, tail := range tails {
		for _, head := range []string{"", "0 0 0 x", "0 0 0 x x\n", "1 "} {
			was[holdModel(t, head+tail)]++
			was[holdModel(t, head+tail+"\n")]++
			was[holdModel(t, "3 "+tail+" 0 x x\n")]++
		}
	}
	if was[true] < 100 || was[false] < 5000 {
		t.Errorf("so many were steps, and none: %v", was)
	}
}
