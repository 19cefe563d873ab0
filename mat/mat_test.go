package mat

import (
	"bytes"
	"math"
	"slices"
	"strconv"
	"testing"

	"flitting/api"
	"flitting/gf"
)

// same tells whether both have the same rows; nil and empty are the same.
func same(a, b [][]byte) bool {
	return slices.EqualFunc(a, b, bytes.Equal)
}

// told is rows as text.
func told(rows [][]byte) string {
	text := "["
	for _, row := range rows {
		for _, b := range row {
			text += " " + strconv.Itoa(int(b))
		}
		text += ";"
	}
	return text + " ]"
}

// eye is the unit, written another way than the program's.
func eye(size int) [][]byte {
	var rows [][]byte
	for n := 0; n < size; n++ {
		row := bytes.Repeat([]byte{0}, size)
		row[n] = 1
		rows = append(rows, row)
	}
	return rows
}

// stirred is rows of bytes that follow a rule, from a seed that goes on.
func stirred(seed *uint32, high, wide int) [][]byte {
	rows := make([][]byte, high)
	for n := range rows {
		rows[n] = make([]byte, wide)
		for at := range rows[n] {
			*seed = *seed*1664525 + 1013904223
			rows[n][at] = byte(*seed >> 24)
		}
	}
	return rows
}

// summed is the product, place by place: another way than the program's, that goes row by row.
func summed(a, b [][]byte) [][]byte {
	rows := make([][]byte, len(a))
	for n := range a {
		for j := range b[0] {
			var sum byte
			for i := range b {
				sum ^= gf.Mul(a[n][i], b[i][j])
			}
			rows[n] = append(rows[n], sum)
		}
	}
	return rows
}

// volume is the determinant, by the first row's places: signs are nothing here.
func volume(a [][]byte) byte {
	if len(a) == 0 {
		return 1
	}
	var sum byte
	for at, b := range a[0] {
		var rest [][]byte
		for _, row := range a[1:] {
			rest = append(rest, slices.Concat(row[:at], row[at+1:]))
		}
		sum ^= gf.Mul(b, volume(rest))
	}
	return sum
}

func TestTimesKnown(t *testing.T) {
	for _, c := range []struct{ a, b, want [][]byte }{
		{[][]byte{{2}}, [][]byte{{128}}, [][]byte{{29}}},
		{[][]byte{{0}}, [][]byte{{255}}, [][]byte{{0}}},
		// 3*3 is 5; sums have no carry.
		{[][]byte{{1, 2}, {3, 4}}, [][]byte{{5, 6}, {7, 8}}, [][]byte{{5 ^ 14, 6 ^ 16}, {15 ^ 28, 10 ^ 32}}},
		{[][]byte{{1, 1}}, [][]byte{{200}, {200}}, [][]byte{{0}}},
		{[][]byte{{1}, {2}, {0}}, [][]byte{{1, 128, 3}}, [][]byte{{1, 128, 3}, {2, 29, 6}, {0, 0, 0}}},
		{[][]byte{{1, 0, 1}}, [][]byte{{9, 8}, {7, 6}, {5, 4}}, [][]byte{{9 ^ 5, 8 ^ 4}}},
		{[][]byte{{0, 1}, {1, 0}}, [][]byte{{1, 2}, {3, 4}}, [][]byte{{3, 4}, {1, 2}}},
	} {
		if got, e := Times(c.a, c.b); e != api.OK || !same(got, c.want) {
			t.Errorf("Times(%s, %s) = %s, %d, want %s", told(c.a), told(c.b), told(got), e, told(c.want))
		}
	}
}

func TestTimesAnySizes(t *testing.T) {
	seed := uint32(1)
	for high := 1; high <= 9; high++ {
		for between := 1; between <= 9; between++ {
			for wide := 1; wide <= 9; wide++ {
				a, b := stirred(&seed, high, between), stirred(&seed, between, wide)
				if got, e := Times(a, b); e != api.OK || !same(got, summed(a, b)) {
					t.Fatalf("Times(%s, %s) = %s, %d", told(a), told(b), told(got), e)
				}
			}
		}
	}
}

// Times has no limit as Invert has one: long rows and many of them are multiplied, too.
func TestTimesGreat(t *testing.T) {
	seed := uint32(2)
	a, b := stirred(&seed, 300, 20), stirred(&seed, 20, 300)
	if got, e := Times(a, b); e != api.OK || !same(got, summed(a, b)) {
		t.Errorf("300 rows: %d rows, %d", len(got), e)
	}
	a, b = stirred(&seed, 2, 1000), stirred(&seed, 1000, 2)
	if got, e := Times(a, b); e != api.OK || !same(got, summed(a, b)) {
		t.Errorf("1000 in a row: %s, %d", told(got), e)
	}
}

func TestTimesOfUnit(t *testing.T) {
	seed := uint32(3)
	for size := 1; size <= 8; size++ {
		a := stirred(&seed, size, size)
		left, e := Times(eye(size), a)
		right, f := Times(a, eye(size))
		if e != api.OK || f != api.OK || !same(left, a) || !same(right, a) {
			t.Errorf("%s by a unit: %s, %s", told(a), told(left), told(right))
		}
	}
}

// Rows that have nothing in them are rows.
func TestTimesEmptyRows(t *testing.T) {
	got, e := Times([][]byte{{1, 2}, {3, 4}, {5, 6}}, [][]byte{{}, nil})
	if e != api.OK || !same(got, [][]byte{{}, {}, {}}) {
		t.Errorf("rows of no bytes: %d rows, %d", len(got), e)
	}
}

func TestTimesWrong(t *testing.T) {
	one := [][]byte{{1}}
	for name, c := range map[string]struct{ a, b [][]byte }{
		"nil, nil":                   {nil, nil},
		"a is nil":                   {nil, one},
		"b is nil":                   {one, nil},
		"a has no rows":              {[][]byte{}, one},
		"b has no rows":              {one, [][]byte{}},
		"a's rows are empty":         {[][]byte{{}}, one},
		"a's empty, b has none":      {[][]byte{{}, {}}, [][]byte{}},
		"both have an empty row":     {[][]byte{{}}, [][]byte{{}}},
		"a's rows are longer":        {[][]byte{{1, 2}}, one},
		"a's rows are shorter":       {one, [][]byte{{1}, {2}}},
		"as many rows, not as long":  {[][]byte{{1, 2, 3}, {4, 5, 6}}, [][]byte{{1, 2, 3}, {4, 5, 6}}},
		"a's last row is shorter":    {[][]byte{{1, 2}, {3}}, [][]byte{{1}, {2}}},
		"a's last row is longer":     {[][]byte{{1}, {2, 3}}, one},
		"a's first row is shorter":   {[][]byte{{1}, {2, 3}, {4, 5}}, [][]byte{{1}, {2}}},
		"a's middle row is nil":      {[][]byte{{1}, nil, {2}}, one},
		"b's last row is shorter":    {[][]byte{{1, 2}}, [][]byte{{1, 2}, {3}}},
		"b's last row is longer":     {[][]byte{{1, 2}}, [][]byte{{1}, {2, 3}}},
		"b's middle row is longer":   {[][]byte{{1, 2, 3}}, [][]byte{{1}, {2, 3}, {4}}},
		"b's first row is empty":     {[][]byte{{1, 2}}, [][]byte{{}, {1}}},
		"b's last row is empty":      {[][]byte{{1, 2}}, [][]byte{{1}, nil}},
		"both are none, as many all": {[][]byte{{1, 2}, {3}}, [][]byte{{1, 2}, {3}}},
	} {
		if got, e := Times(c.a, c.b); e != api.ErrArg || len(got) != 0 {
			t.Errorf("%s: %s, %d, want nothing, ErrArg", name, told(got), e)
		}
	}
}

func TestInvertKnown(t *testing.T) {
	for _, c := range []struct{ a, want [][]byte }{
		{[][]byte{{1}}, [][]byte{{1}}},
		{[][]byte{{2}}, [][]byte{{142}}},
		{[][]byte{{0, 1}, {1, 0}}, [][]byte{{0, 1}, {1, 0}}}, // nothing stands where it begins
		{[][]byte{{1, 7}, {0, 1}}, [][]byte{{1, 7}, {0, 1}}},
		{[][]byte{{1, 0}, {7, 1}}, [][]byte{{1, 0}, {7, 1}}},
		{[][]byte{{0, 0, 1}, {1, 0, 0}, {0, 1, 0}}, [][]byte{{0, 1, 0}, {0, 0, 1}, {1, 0, 0}}},
		{[][]byte{{1, 1, 0}, {1, 1, 1}, {0, 1, 1}}, [][]byte{{0, 1, 1}, {1, 1, 1}, {1, 1, 0}}}, // nothing where it goes on
	} {
		if got, e := Invert(c.a); e != api.OK || !same(got, c.want) {
			t.Errorf("Invert(%s) = %s, %d, want %s", told(c.a), told(got), e, told(c.want))
		}
	}
}

func TestInvertOfOneByte(t *testing.T) {
	if got, e := Invert([][]byte{{0}}); e != api.ErrNone || len(got) != 0 {
		t.Errorf("of 0: %s, %d", told(got), e)
	}
	for b := 1; b < 256; b++ {
		if got, e := Invert([][]byte{{byte(b)}}); e != api.OK || !same(got, [][]byte{{gf.Inv(byte(b))}}) {
			t.Errorf("of %d: %s, %d", b, told(got), e)
		}
	}
}

// inverted holds Invert's answer of a against the determinant, and against both products.
func inverted(t *testing.T, a [][]byte) {
	t.Helper()
	got, e := Invert(a)
	if volume(a) == 0 {
		if e != api.ErrNone || len(got) != 0 {
			t.Fatalf("Invert(%s) = %s, %d, want nothing, ErrNone", told(a), told(got), e)
		}
		return
	}
	unit := eye(len(a))
	if e != api.OK || len(got) != len(a) || len(got[0]) != len(a) || !same(summed(a, got), unit) || !same(summed(got, a), unit) {
		t.Fatalf("Invert(%s) = %s, %d", told(a), told(got), e)
	}
}

// All tables of two rows of the least four bytes, and all of three rows of noughts and ones: those without an inverse, and those whose rows change places, too.
func TestInvertSmall(t *testing.T) {
	for n := range 1 << 8 {
		inverted(t, [][]byte{{byte(n & 3), byte(n >> 2 & 3)}, {byte(n >> 4 & 3), byte(n >> 6)}})
	}
	for n := range 1 << 9 {
		a := make([][]byte, 3)
		for at := range 9 {
			a[at/3] = append(a[at/3], byte(n>>at&1))
		}
		inverted(t, a)
	}
}

func TestInvertAnySizes(t *testing.T) {
	seed := uint32(4)
	for size := 1; size <= api.MaxK+api.MaxM; size++ {
		for range 20 {
			a := stirred(&seed, size, size)
			inverted(t, a)
			for n := range a {
				for at := range a {
					if (n+at)%2 == 0 { // every other place is empty: rows change places more than once
						a[n][at] = 0
					}
				}
			}
			inverted(t, a)
		}
	}
}

func TestInvertNone(t *testing.T) {
	seed := uint32(5)
	for size := 1; size <= api.MaxK+api.MaxM; size++ {
		for at := range size {
			a := stirred(&seed, size, size)
			clear(a[at])
			b := stirred(&seed, size, size)
			for n := range b {
				b[n][at] = 0
			}
			// A row that is the sum of the others, of each another multiple.
			c := stirred(&seed, size, size)
			clear(c[at])
			for n := range c {
				for i := range c[n] {
					if n != at {
						c[at][i] ^= gf.Mul(byte(n+2), c[n][i])
					}
				}
			}
			for _, x := range [][][]byte{a, b, c} {
				if got, e := Invert(x); e != api.ErrNone || len(got) != 0 {
					t.Errorf("Invert(%s) = %s, %d, want nothing, ErrNone", told(x), told(got), e)
				}
			}
		}
	}
}

// The greatest that is inverted has MaxK + MaxM rows.
func TestInvertGreatest(t *testing.T) {
	most := eye(api.MaxK + api.MaxM)
	if got, e := Invert(most); e != api.OK || !same(got, most) {
		t.Errorf("of %d rows: %s, %d", len(most), told(got), e)
	}
	for _, size := range []int{api.MaxK + api.MaxM + 1, api.MaxK + api.MaxM + 2, 20, 300} {
		for _, a := range [][][]byte{eye(size), slices.Repeat([][]byte{make([]byte, size)}, size)} {
			if got, e := Invert(a); e != api.ErrArg || len(got) != 0 {
				t.Errorf("of %d rows: %d rows, %d, want nothing, ErrArg", size, len(got), e)
			}
		}
	}
}

// ErrArg comes ahead of ErrNone: of what is no such table it does not count whether it has an inverse.
func TestInvertWrong(t *testing.T) {
	for name, a := range map[string][][]byte{
		"nil":                       nil,
		"no rows":                   {},
		"one row, nil":              {nil},
		"one row, empty":            {{}},
		"two rows, empty":           {{}, {}},
		"one row of two":            {{1, 2}},
		"two rows of one":           {{1}, {2}},
		"two rows of three":         {{1, 0, 0}, {0, 1, 0}},
		"three rows of two":         {{1, 0}, {0, 1}, {0, 0}},
		"noughts, not square":       {{0, 0, 0}, {0, 0, 0}},
		"the last row is shorter":   {{1, 0}, {0}},
		"the last row is longer":    {{1, 0}, {0, 1, 0}},
		"the first row is shorter":  {{1}, {0, 1}},
		"the first row is longer":   {{1, 0, 0}, {0, 1}},
		"the middle row is nil":     {{1, 0, 0}, nil, {0, 0, 1}},
		"noughts, the last shorter": {{0, 0}, {0}},
		"seven rows of eight":       slices.Repeat([][]byte{make([]byte, 8)}, 7),
		"eight rows of seven":       slices.Repeat([][]byte{make([]byte, 7)}, 8),
	} {
		if got, e := Invert(a); e != api.ErrArg || len(got) != 0 {
			t.Errorf("%s: %s, %d, want nothing, ErrArg", name, told(got), e)
		}
	}
}

func TestCodeKnown(t *testing.T) {
	for _, c := range []struct {
		k, m int
		want [][]byte
	}{
		{1, 0, [][]byte{{1}}},
		{1, 1, [][]byte{{1}, {1}}},
		{1, 3, [][]byte{{1}, {1}, {142}, {244}}},
		{2, 1, [][]byte{{1, 0}, {0, 1}, {142, 244}}},
		{4, 0, [][]byte{{1, 0, 0, 0}, {0, 1, 0, 0}, {0, 0, 1, 0}, {0, 0, 0, 1}}},
		{4, 3, [][]byte{{1, 0, 0, 0}, {0, 1, 0, 0}, {0, 0, 1, 0}, {0, 0, 0, 1}, {71, 167, 122, 186}, {167, 71, 186, 122}, {122, 186, 71, 167}}},
	} {
		if got := Code(c.k, c.m); !same(got, c.want) {
			t.Errorf("Code(%d, %d) = %s, want %s", c.k, c.m, told(got), told(c.want))
		}
	}
}

func TestCodeAll(t *testing.T) {
	for k := 1; k <= api.MaxK; k++ {
		for m := 0; m <= api.MaxM; m++ {
			want := eye(k)
			for n := 0; n < m; n++ {
				var row []byte
				for j := 0; j < k; j++ {
					row = append(row, gf.Inv(byte((k+n)^j)))
				}
				want = append(want, row)
			}
			if got := Code(k, m); !same(got, want) {
				t.Errorf("Code(%d, %d) = %s, want %s", k, m, told(got), told(want))
			}
		}
	}
}

// Any k rows of a code can be inverted: so any k shards are the data.
func TestCodeAnyRows(t *testing.T) {
	for k := 1; k <= api.MaxK; k++ {
		for m := 0; m <= api.MaxM; m++ {
			code := Code(k, m)
			for which := range 1 << (k + m) {
				var rows [][]byte
				for n, row := range code {
					if which>>n&1 == 1 {
						rows = append(rows, row)
					}
				}
				if len(rows) == k {
					if volume(rows) == 0 {
						t.Fatalf("Code(%d, %d): rows without an inverse: %s", k, m, told(rows))
					}
					inverted(t, rows)
				}
			}
		}
	}
}

func TestCodeWrong(t *testing.T) {
	for _, c := range [][2]int{
		{0, 0}, {0, 1}, {-1, 0}, {-1, 1}, {5, 0}, {5, 3}, {6, 1}, {1, -1}, {4, -1}, {1, 4}, {4, 4}, {2, 5}, {0, -1}, {5, 4},
		{256, 1}, {257, 1}, {1, 256}, {1, 257}, {1 << 32, 1}, {1<<32 + 1, 1}, {1, 1 << 32}, {1, 1<<32 + 1},
		{math.MinInt, 0}, {math.MinInt + 1, 1}, {math.MaxInt, 0}, {math.MaxInt, 3}, {1, math.MinInt}, {1, math.MaxInt}, {4, math.MaxInt - 4},
		{math.MinInt, math.MinInt}, {math.MaxInt, math.MaxInt}, {math.MinInt, math.MaxInt}, {math.MaxInt, math.MinInt},
	} {
		if got := Code(c[0], c[1]); len(got) != 0 {
			t.Errorf("Code(%d, %d) = %s, want none", c[0], c[1], told(got))
		}
	}
}

// roomy is rows of which each, and the list, has spare room that is written full; both are told whole by spread.
func roomy(rows [][]byte) [][]byte {
	list := make([][]byte, 0, len(rows)+2)
	for _, row := range rows {
		list = append(list, append(slices.Clone(row), 77, 77, 77)[:len(row):len(row)+3])
	}
	return append(list, []byte{88}, []byte{99})[:len(rows)]
}

// spread is all that rows have, their spare room, too.
func spread(rows [][]byte) [][]byte {
	var whole [][]byte
	for _, row := range rows[:cap(rows)] {
		whole = append(whole, slices.Clone(row[:cap(row)]))
	}
	return whole
}

// apart holds that to write all over what was answered changes no other row of it, and nothing of given.
func apart(t *testing.T, name string, answer [][]byte, given ...[][]byte) {
	t.Helper()
	var before [][][]byte
	for _, rows := range given {
		before = append(before, spread(rows))
	}
	for n := range answer {
		others := spread(slices.Delete(slices.Clone(answer), n, n+1))
		for at := range answer[n][:cap(answer[n])] {
			answer[n][:cap(answer[n])][at] ^= 255
		}
		if !same(others, spread(slices.Delete(slices.Clone(answer), n, n+1))) {
			t.Errorf("%s: row %d shares with another", name, n)
		}
	}
	list := answer[:cap(answer)]
	for n := range list {
		list[n] = []byte{66}
	}
	for n, rows := range given {
		if !same(before[n], spread(rows)) {
			t.Errorf("%s: the answer shares with what was handed in", name)
		}
	}
}

func TestMemory(t *testing.T) {
	seed := uint32(6)
	for size := 1; size <= api.MaxK+api.MaxM; size++ {
		for _, a := range [][][]byte{roomy(eye(size)), roomy(stirred(&seed, size, size)), roomy(slices.Repeat([][]byte{make([]byte, size)}, size))} {
			b := roomy(stirred(&seed, size, 3))
			wasA, wasB := spread(a), spread(b)
			product, e := Times(a, b)
			inverse, f := Invert(a)
			if e != api.OK || !same(wasA, spread(a)) || !same(wasB, spread(b)) {
				t.Fatalf("Times, Invert of %s: what was handed in is another", told(a))
			}
			apart(t, "Times", product, a, b)
			if f == api.OK {
				apart(t, "Invert", inverse, a)
			}
		}
	}
	code, again := Code(4, 3), Code(4, 3)
	apart(t, "Code", code, again)
	if !same(again, Code(4, 3)) {
		t.Error("Code: another one, the next time")
	}
}

// A table may be handed in as both, and one row may stand in it twice.
func TestSharedRows(t *testing.T) {
	row := []byte{3, 5}
	twice := [][]byte{row, row}
	if got, e := Times(twice, twice); e != api.OK || !same(got, summed(twice, twice)) {
		t.Errorf("Times of itself: %s, %d", told(got), e)
	}
	if got, e := Invert(twice); e != api.ErrNone || len(got) != 0 {
		t.Errorf("Invert of a row that is there twice: %s, %d", told(got), e)
	}
	long := []byte{1, 2, 1, 3}
	laid := [][]byte{long[0:2], long[1:3]}
	inverted(t, laid)
	if !bytes.Equal(long, []byte{1, 2, 1, 3}) {
		t.Errorf("rows that overlap are others: %v", long)
	}
}
