package shell

import (
	"fmt"
	"math"
	"slices"
	"strings"
	"testing"

	"flitting/api"
)

// long is as many bytes as an object may have.
const long = "Moving house while people live in it: a row of texts, each of them a line, and as many answers.."

// short is the beginning of what may be long.
func short(text string) string {
	return text[:min(len(text), 400)]
}

// even is so many drives of as many slots.
func even(many, slots int) []int {
	return slices.Repeat([]int{slots}, many)
}

// step is the line of a step that has a number alone.
func step(kind, a int) string {
	return fmt.Sprintf("%d %d 0 x x\n", kind, a)
}

// call is the line of a client's call.
func call(op int, key, data string) string {
	return fmt.Sprintf("1 %d 0 x%x x%x\n", op, key, data)
}

func run(task int) string {
	return step(api.StepRun, task)
}

// runs lets a task go on so often.
func runs(task, often int) string {
	return strings.Repeat(run(task), often)
}

func moves(often int) string {
	return strings.Repeat(step(api.StepMove, 0), often)
}

func crash(a int, keep uint64) string {
	return fmt.Sprintf("8 %d %d x x\n", a, keep)
}

// row is a step's line and what is told of it, both without their ends.
type row struct {
	step, told string
}

// often is a row so often.
func often(many int, r row) []row {
	return slices.Repeat([]row{r}, many)
}

// holdText holds what is told of a text.
func holdText(t *testing.T, k, m int, drives []int, text, want string) {
	t.Helper()
	if got := Run(k, m, drives, text); got != want {
		t.Fatalf("Run(%d, %d, %v, %q) = %q, want %q", k, m, drives, short(text), short(got), short(want))
	}
}

// hold holds what is told of rows of steps, and behind them.
func hold(t *testing.T, k, m int, drives []int, state string, rows ...[]row) {
	t.Helper()
	var steps, told strings.Builder
	for _, r := range slices.Concat(rows...) {
		steps.WriteString(r.step + "\n")
		told.WriteString(r.told + "\n")
	}
	holdText(t, k, m, drives, steps.String(), told.String()+state+"\n")
}

// nine holds rows of three drives of nine slots each, for stripes of two data shards and one more.
func nine(t *testing.T, state string, rows ...[]row) {
	t.Helper()
	hold(t, 2, 1, even(3, 9), state, rows...)
}

// put is the rows of a Put of "some data" by task 0: three shards are stored, three drives flushed, and it is committed.
func put() []row {
	rows := often(7, row{"2 0 0 x x", "0 0 0 0 x"})
	rows[0].step = "1 1 0 x6b6579 x736f6d652064617461"
	return append(rows, row{"2 0 0 x x", "0 0 1 2 x"})
}

// P25.1, example 1: no steps, of drives that do.
func TestNoSteps(t *testing.T) {
	for k := 1; k <= api.MaxK; k++ {
		for m := range api.MaxM + 1 {
			for many := k + m; many <= api.MaxDrives; many++ {
				for _, slots := range []int{math.MinInt, -1, 0, 1, 9, api.MaxCap, api.MaxCap + 1, math.MaxInt} {
					holdText(t, k, m, even(many, slots), "", "idle\n")
				}
			}
		}
	}
}

// holdNoStore holds that there is no such store, whatever the text is: New's error is named first, and is told without a line.
func holdNoStore(t *testing.T, k, m int, drives []int, want string) {
	t.Helper()
	for _, text := range []string{"", "3 0 0 x x\n", "3 0 0 x x", "\n", "none", "3 0 0 x x\n3 0 0 x x\nnone\n", step(api.StepAdd, 9) + step(api.StepAdd, 9)} {
		holdText(t, k, m, drives, text, want)
	}
}

// P25.1: each error of New.
func TestNoStore(t *testing.T) {
	ends := []int{math.MinInt, math.MinInt + 1, -1 << 32, -1, math.MaxInt - 1, math.MaxInt, 1 << 32, 1<<32 + 1, 256}
	for _, k := range append(ends, 0, api.MaxK+1) {
		holdNoStore(t, k, 1, even(9, 9), "error 1\n")
		holdNoStore(t, k, -1, nil, "error 1\n")
	}
	for _, m := range append(ends, api.MaxM+1) {
		holdNoStore(t, 2, m, even(9, 9), "error 1\n")
		holdNoStore(t, 2, m, nil, "error 1\n")
	}
	for _, many := range []int{api.MaxDrives + 1, 40} {
		holdNoStore(t, 2, 1, even(many, 9), "error 1\n")
		holdNoStore(t, 0, 1, even(many, 9), "error 1\n")
	}
	for k := 1; k <= api.MaxK; k++ {
		for m := range api.MaxM + 1 {
			for many := range k + m {
				holdNoStore(t, k, m, even(many, 9), "error 10\n")
			}
		}
	}
	holdNoStore(t, 1, 0, nil, "error 10\n")
	holdNoStore(t, 1, 0, []int{}, "error 10\n")
	// More drives are no help to a k or an m that is none, nor are fewer.
	holdNoStore(t, 5, 3, even(7, 9), "error 1\n")
	holdNoStore(t, 4, 4, even(7, 9), "error 1\n")
}

// P25.1: a text with a line that is none: of all its steps nothing is told but that line's number.
func TestNoText(t *testing.T) {
	good := "1 1 0 x6b6579 x736f6d65\n2 0 0 x x\n"
	for many := range 12 {
		ahead := strings.Repeat(good, many)
		want := fmt.Sprintf("error 13 %d\n", 2*many+1)
		for _, bad := range []string{
			"\n", " \n", "none\n", "3 0 0 x\n", "3 0 0 x x x\n", "03 0 0 x x\n", "3 0 0 x X\n", "3 0 0 x xa\n", "3 0 0 x xA0\n", "3 0 -1 x x\n", "3  0 0 x x\n", "3 0 0 x x \n", "3 0 0 x x\r\n", "+3 0 0 x x\n", "-0 0 0 x x\n",
			"9223372036854775808 0 0 x x\n", "0 0 18446744073709551616 x x\n", "idle\n", "0 0 0 0 x\n", "error 1\n", "\x00\n", "\xff\n", "\ufeff3 0 0 x x\n", "#\n",
		} {
			for behind := range 3 {
				holdText(t, 2, 1, even(3, 9), ahead+bad+strings.Repeat(good, behind), want)
				holdText(t, 2, 1, even(3, 9), ahead+bad+strings.Repeat(good, behind)+bad, want)
				holdText(t, 2, 1, even(3, 9), ahead+bad+strings.Repeat(good, behind)+"3 0 0 x x", want)
			}
		}
		// The last line lacks its end, or has a piece of itself alone.
		for _, last := range []string{"3 0 0 x x", "3 0 0 x x\r", "3", " ", "x", "\x00"} {
			holdText(t, 2, 1, even(3, 9), ahead+last, want)
		}
	}
	for _, many := range []int{99, 100, 1000, 20000} {
		holdText(t, 2, 1, even(3, 9), moves(many)+"3 0 0 x x", fmt.Sprintf("error 13 %d\n", many+1))
		holdText(t, 2, 1, even(3, 9), moves(many), strings.Repeat("0 0 0 0 x\n", many)+"idle\n")
	}
}

// P25.1: what is told of a client's calls, from the first to the last.
func TestCalls(t *testing.T) {
	nine(t, "busy", []row{{"1 1 0 x6b6579 x736f6d652064617461", "0 0 0 0 x"}})
	for ahead := 1; ahead < 8; ahead++ {
		nine(t, "busy", put()[:ahead])
	}
	nine(t, "idle", put())
	nine(t, "idle", put(), []row{
		{"1 2 0 x6b6579 x", "0 0 0 0 x"},
		{"2 0 0 x x", "0 0 0 1 x"},
		{"2 0 0 x x", "0 0 1 0 x736f6d652064617461"},
		{"1 4 0 x x", "0 0 0 0 x"},
		{"2 0 0 x x", "0 0 1 1 x x6b6579"},
		{"1 3 0 x6b6579 x", "0 0 0 0 x"},
		{"2 0 0 x x", "0 0 1 2 x"},
		{"1 2 0 x6b6579 x", "0 0 0 0 x"},
		{"2 0 0 x x", "7 0 1 1 x"},
		{"1 3 0 x6b6579 x", "0 0 0 0 x"},
		{"2 0 0 x x", "7 0 1 1 x"},
		{"1 4 0 x x", "0 0 0 0 x"},
		{"2 0 0 x x", "0 0 1 1 x"},
		// What the object had is astray on three drives, and is taken away one by one.
		{"3 0 0 x x", "0 0 0 0 x"},
		{"3 0 0 x x", "0 0 0 0 x"},
		{"3 0 0 x x", "0 0 0 0 x"},
	})
}

// P25.1: a Task is the least number that is free.
func TestTasks(t *testing.T) {
	var rows []row
	for task := range api.MaxTasks {
		rows = append(rows, row{"1 4 0 x x", fmt.Sprintf("0 %d 0 0 x", task)})
	}
	nine(t, "busy", rows)
	nine(t, "busy", rows, []row{
		{"1 4 0 x x", "6 0 0 0 x"},
		{"2 3 0 x x", "0 3 1 1 x"},
		{"2 3 0 x x", "7 0 0 0 x"},
		{"2 1 0 x x", "0 1 1 1 x"},
		{"1 2 0 x61 x", "0 1 0 0 x"},
		{"1 1 0 x62 x", "0 3 0 0 x"},
		{"1 4 0 x x", "6 0 0 0 x"},
		{"2 1 0 x x", "7 1 1 1 x"},
		{"2 3 0 x x", "0 3 1 2 x"},
		{"2 5 0 x x", "0 5 1 1 x x62"},
	})
	nine(t, "idle", rows, []row{
		{"2 5 0 x x", "0 5 1 1 x"},
		{"2 4 0 x x", "0 4 1 1 x"},
		{"2 3 0 x x", "0 3 1 1 x"},
		{"2 2 0 x x", "0 2 1 1 x"},
		{"2 1 0 x x", "0 1 1 1 x"},
		{"2 0 0 x x", "0 0 1 1 x"},
	})
}

// P25.1: an error of a step; those behind it are told all the same.
func TestErrors(t *testing.T) {
	rows := []row{
		{"1 0 0 x6b x", "1 0 0 0 x"},
		{"1 5 0 x6b x", "1 0 0 0 x"},
		{"1 -1 0 x6b x", "1 0 0 0 x"},
		{"1 1 0 x x", "5 0 0 0 x"},
		{"1 1 0 x" + strings.Repeat("6b", 17) + " x", "5 0 0 0 x"},
		{"1 1 0 x6b x" + strings.Repeat("64", 97), "4 0 0 0 x"},
		{"2 0 0 x x", "7 0 0 0 x"},
		{"2 -1 0 x x", "7 0 0 0 x"},
		{"2 9223372036854775807 0 x x", "7 0 0 0 x"},
		{"5 0 0 x x", "10 0 0 0 x"},
		{"5 3 0 x x", "7 0 0 0 x"},
		{"5 -9223372036854775808 0 x x", "7 0 0 0 x"},
		{"6 0 0 x x", "11 0 0 0 x"},
		{"6 3 0 x x", "7 0 0 0 x"},
		{"7 3 0 x x", "7 0 0 0 x"},
		{"7 -1 0 x x", "7 0 0 0 x"},
		{"0 0 0 x x", "1 0 0 0 x"},
		{"10 0 0 x x", "1 0 0 0 x"},
		{"-1 0 0 x x", "1 0 0 0 x"},
		{"9223372036854775807 1 0 x6b x", "1 0 0 0 x"},
		{"-9223372036854775808 1 0 x6b x", "1 0 0 0 x"},
		{"4294967297 1 0 x6b x", "1 0 0 0 x"},
	}
	for _, r := range rows {
		nine(t, "idle", []row{r})
		nine(t, "idle", []row{r, r}, put(), []row{r}, []row{{"1 4 0 x x", "0 0 0 0 x"}, {"2 0 0 x x", "0 0 1 1 x x6b6579"}})
	}
	nine(t, "idle", rows, put(), rows)
	nine(t, "busy", put()[:3], []row{{"1 1 0 x6b6579 x", "6 0 0 0 x"}, {"1 3 0 x6b6579 x", "6 0 0 0 x"}, {"1 2 0 x6b6579 x", "0 1 0 0 x"}, {"2 1 0 x x", "7 1 1 1 x"}}, put()[3:7])
}

// P25.1: each Kind of step, with all that a line has: what a step has no use for is told of no other.
func TestKinds(t *testing.T) {
	nine(t, "busy", []row{
		{"4 128 7 x6b x64", "0 0 0 0 x"},
		{"4 -1 7 x6b x64", "0 0 0 0 x"},
		{"4 9223372036854775807 7 x6b x64", "0 0 0 0 x"},
		{"5 1 7 x6b x64", "0 0 0 0 x"},
		{"5 1 7 x6b x64", "7 0 0 0 x"},
		{"6 1 7 x6b x64", "0 0 0 0 x"},
		{"6 1 7 x6b x64", "7 0 0 0 x"},
		{"7 4 7 x6b x64", "0 0 0 0 x"},
		{"7 4 7 x6b x64", "7 0 0 0 x"},
		{"3 99 7 x6b x64", "0 0 0 0 x"},
		{"1 4 7 x6b x64", "0 0 0 0 x"},
		{"2 0 7 x6b x64", "0 0 1 1 x"},
		{"1 1 7 x6b x", "0 0 0 0 x"},
		{"2 0 7 x62 x64", "0 0 1 2 x"},
		{"9 0 7 x6b x64", "0 0 0 0 x"},
		{"1 4 7 x62 x64", "0 0 0 0 x"},
		{"2 0 7 x6b x64", "0 0 1 1 x x6b"},
		{"4 9 7 x6b x64", "9 0 0 0 x"},
		{"8 -1 18446744073709551615 x6b x64", "0 0 0 0 x"},
		{"1 4 7 x6b x64", "0 0 0 0 x"},
	})
	var rows []row
	for n := 4; n <= api.MaxDrives; n++ {
		rows = append(rows, row{"4 9 0 x x", "0 0 0 0 x"})
	}
	nine(t, "idle", rows, []row{{"4 9 0 x x", "3 0 0 0 x"}})
}

// P25.1: the power goes; all but what may come ahead of a crash is told as such, and a Kind that is none as ever.
func TestPower(t *testing.T) {
	down := []row{
		{"4 9 0 x x", "9 0 0 0 x"},
		{"1 4 0 x x", "9 0 0 0 x"},
		{"2 0 0 x x", "9 0 0 0 x"},
		{"3 0 0 x x", "9 0 0 0 x"},
		{"5 0 0 x x", "9 0 0 0 x"},
		{"6 0 0 x x", "9 0 0 0 x"},
		{"10 0 0 x x", "1 0 0 0 x"},
		{"7 0 0 x x", "0 0 0 0 x"},
		{"9 99 0 x x", "0 0 0 0 x"},
		{"4 9 0 x x", "9 0 0 0 x"},
	}
	nine(t, "idle", []row{{"9 0 0 x x", "0 0 0 0 x"}}, down)
	nine(t, "idle", []row{{"9 -5 0 x x", "0 0 0 0 x"}}, down, []row{{"8 0 0 x x", "0 0 0 0 x"}, {"4 9 0 x x", "0 0 0 0 x"}})
	// A Put whose power goes is no more, if that was in its commit; else it waits, to no use.
	nine(t, "busy", put()[:4], []row{{"9 0 0 x x", "0 0 0 0 x"}, {"2 0 0 x x", "9 0 0 0 x"}, {"2 0 0 x x", "9 0 0 0 x"}})
	nine(t, "idle", put()[:7], []row{{"9 0 0 x x", "0 0 0 0 x"}, {"2 0 0 x x", "9 0 1 0 x"}, {"8 60 0 x x", "0 0 0 0 x"}, {"1 4 0 x x", "0 0 0 0 x"}, {"2 0 0 x x", "0 0 1 1 x x6b6579"}})
	nine(t, "busy", put()[:7], []row{{"9 0 0 x x", "0 0 0 0 x"}, {"2 0 0 x x", "9 0 1 0 x"}, {"8 0 0 x x", "0 0 0 0 x"}, {"1 4 0 x x", "0 0 0 0 x"}, {"2 0 0 x x", "0 0 1 1 x"}})
}

// P25.1: a crash ends all that is under way, of which nobody is told anything more.
func TestCrash(t *testing.T) {
	list := []row{{"1 4 0 x x", "0 0 0 0 x"}, {"2 0 0 x x", "0 0 1 1 x"}}
	gone := []row{{"2 0 0 x x", "7 0 0 0 x"}}
	nine(t, "idle", put()[:1], []row{{"8 0 0 x x", "0 0 0 0 x"}}, gone, list)
	// Of three shards that are stored, not flushed, those last whose bits are set.
	nine(t, "idle", put()[:4], []row{{"8 0 0 x x", "0 0 0 0 x"}}, gone, list)
	nine(t, "busy", put()[:4], []row{{"8 0 18446744073709551615 x x", "0 0 0 0 x"}}, gone, list)
	nine(t, "idle", put()[:4], []row{{"8 0 18446744073709551615 x x", "0 0 0 0 x"}}, gone, list, often(3, row{"3 0 0 x x", "0 0 0 0 x"}))
	nine(t, "idle", put(), []row{{"8 0 0 x x", "0 0 0 0 x"}}, gone, []row{{"1 2 0 x6b6579 x", "0 0 0 0 x"}, {"2 0 0 x x", "0 0 0 1 x"}, {"2 0 0 x x", "0 0 1 0 x736f6d652064617461"}})
}

// asks is a key that is put with its data by task 0, and what is told of a Get and a List of it.
func asks(t *testing.T, key, data string) {
	t.Helper()
	stripes := (len(data) + 15) / 16
	text := call(api.Put, key, data) + runs(0, 6*stripes+1) + call(api.Get, key, "") + runs(0, stripes+1) + call(api.List, "", "") + run(0)
	want := strings.Repeat("0 0 0 0 x\n", 6*stripes+1) + "0 0 1 2 x\n"
	if stripes == 0 {
		want += "0 0 0 0 x\n0 0 1 1 x\n"
	} else {
		want += "0 0 0 0 x\n0 0 0 1 x\n" + strings.Repeat("0 0 0 0 x\n", stripes-1) + fmt.Sprintf("0 0 1 0 x%x\n", data)
	}
	want += fmt.Sprintf("0 0 0 0 x\n0 0 1 1 x x%x\n", key)
	holdText(t, 2, 1, even(3, 9), text, want+"idle\n")
}

// P25.1: Data of nothing, of every byte, of each length that there may be; and Keys likewise.
func TestBytes(t *testing.T) {
	for size := range api.MaxData + 1 {
		asks(t, "key", long[:size])
	}
	var every []byte
	for b := range 256 {
		every = append(every, byte(b))
		one := string([]byte{byte(b)})
		asks(t, one, one)
		asks(t, "a"+one+"\n", one+" "+one)
	}
	for from := 0; from < 256; from += 64 {
		asks(t, string(every[from:from+16]), string(every[from:from+64]))
		asks(t, string(every[from+48:from+64]), string(every[from:from+64]))
	}
	for _, bytes := range []string{"\n", "\n\n", " ", "  ", "x", "x x", "0", "\x00", "\x00\x00", "\xff", "\r\n", "\xc3", "\u00e4", "idle\n", "0 0 1 0 x\n", "-1", "%x", "\u2028"} {
		asks(t, bytes, bytes)
		asks(t, "x"+bytes, bytes+long[:80])
	}
}

// P25.1: Keys of none, of one, of many, rising: a field for each.
func TestKeys(t *testing.T) {
	keys := []string{"", "\x00", "\x00\x00", "\t", "\n", "\n\n", " ", "  ", "  x", "0", "10", "9", "A", "a", "aa", "ab", "b", "x", "x x", "\x7f", "\x80", "\xc3\xa4", "\xff", strings.Repeat("\xff", api.MaxKey)}[1:]
	var order []int
	for n := range keys {
		order = append(order, n*7%len(keys))
	}
	for many := range len(keys) + 1 {
		text, told := "", ""
		for _, n := range order[:many] {
			text += call(api.Put, keys[n], "") + run(0)
			told += "0 0 0 0 x\n0 0 1 2 x\n"
		}
		text += call(api.List, "", "") + run(0)
		told += "0 0 0 0 x\n0 0 1 1 x"
		slices.Sort(order[:many])
		for _, n := range order[:many] {
			told += fmt.Sprintf(" x%x", keys[n])
		}
		holdText(t, 2, 1, even(3, 9), text, told+"\nidle\n")
	}
}

// P25.1: so many Keys as a store may well have.
func TestKeysMany(t *testing.T) {
	text, told := "", ""
	for n := range 150 {
		text += call(api.Put, fmt.Sprintf("%03d", n), "") + run(0)
		told += "0 0 0 0 x\n0 0 1 2 x\n"
	}
	text += call(api.List, "", "") + run(0)
	told += "0 0 0 0 x\n0 0 1 1 x"
	for n := range 150 {
		told += fmt.Sprintf(" x3%d3%d3%d", n/100, n/10%10, n%10)
	}
	holdText(t, 2, 1, even(3, 9), text, told+"\nidle\n")
}

// P25.1: busy, while a client has something to do; idle, when none has.
func TestClients(t *testing.T) {
	for op := api.Put; op <= api.List; op++ {
		h := house{k: 1, m: 0, drives: even(2, 9)}.with(call(op, "k", ""))
		ended := h.with(run(0))
		if h.idle(t) || !ended.idle(t) {
			t.Errorf("operation %d: idle behind its Call, or not behind its end", op)
		}
		// A refused Call is none.
		if !ended.with(call(op+4, "k", ""), call(op-4, "k", "")).idle(t) {
			t.Errorf("operation %d: a refused Call leaves something to do", op)
		}
		if !h.with(crash(0, 0)).idle(t) || !ended.with(step(api.StepFuse, 9)).idle(t) {
			t.Errorf("operation %d: a crash leaves something to do, or a fuse does", op)
		}
	}
}

// P25.1: busy, while the migration has something to do: a drive that is drained has a shard, or has it yet, when another one has it, too.
func TestDrained(t *testing.T) {
	had := 0
	for n := range 2 {
		h := house{k: 1, m: 0, drives: even(2, 9)}.puts("k", "d").with(step(api.StepDrain, n))
		if h.idle(t) {
			continue
		}
		had++
		for many := range 9 {
			// To begin, to store, to flush, to look, to commit, and to erase what is left behind.
			if got := h.with(moves(many)).idle(t); got != (many >= 6) {
				t.Errorf("%d steps of the migration: idle is %t", many, got)
			}
		}
	}
	if had != 1 {
		t.Errorf("%d of two drives had the only shard", had)
	}
}

// P25.1: a stripe that is parked is nothing to do, till the drives are others.
func TestParked(t *testing.T) {
	for _, k := range []int{1, 2, 3, 4} {
		text := ""
		for n := range 8 {
			text += call(api.Put, long[n:n+1], long[:8*k]) + runs(0, 2*k+1)
		}
		full := text + step(api.StepAdd, 0)
		got := Run(k, 0, even(k, 8), full+moves(40))
		if !strings.HasSuffix(got, "idle\n") || !strings.Contains(got, "3 0 0 0 x\n") || !strings.HasSuffix(Run(k, 0, even(k, 8), full), "busy\n") {
			t.Errorf("k is %d: %q", k, got)
		}
		holdText(t, k, 0, even(k, 8), full+moves(40)+moves(1), strings.TrimSuffix(got, "idle\n")+"0 0 0 0 x\nidle\n")
		// Another drive, or a crash, has it tried anew.
		for _, again := range []string{step(api.StepAdd, 0), crash(0, 0)} {
			holdText(t, k, 0, even(k, 8), full+moves(40)+again, strings.TrimSuffix(got, "idle\n")+"0 0 0 0 x\nbusy\n")
		}
	}
}

// P25.1: each field of an answer is at its own place, whatever it is.
func TestTell(t *testing.T) {
	for want, a := range map[string]api.Answer{
		"0 0 0 0 x\n":               {},
		"1 0 0 0 x\n":               {E: 1},
		"0 2 0 0 x\n":               {Task: 2},
		"0 0 1 0 x\n":               {Done: true},
		"0 0 0 3 x\n":               {Mark: 3},
		"0 0 0 0 x34\n":             {Data: []byte("4")},
		"0 0 0 0 x x35\n":           {Keys: []string{"5"}},
		"0 0 0 0 x x\n":             {Keys: []string{""}},
		"0 0 0 0 x x x x\n":         {Keys: []string{"", "", ""}},
		"0 0 0 0 x0a20ff x20 x0a\n": {Data: []byte("\n \xff"), Keys: []string{" ", "\n"}},
		"13 10 1 2 x6162 x63 x\n":   {E: api.ErrText, Task: 10, Done: true, Mark: api.Changed, Data: []byte("ab"), Keys: []string{"c", ""}},
		"-1 -10 0 -100 x\n":         {E: -1, Task: -10, Mark: -100},
		"9223372036854775807 -9223372036854775808 1 9223372036854775807 x00\n":    {E: math.MaxInt, Task: math.MinInt, Done: true, Mark: math.MaxInt, Data: []byte{0}},
		"-9223372036854775808 9223372036854775807 0 -9223372036854775808 x xff\n": {E: math.MinInt, Task: math.MaxInt, Mark: math.MinInt, Keys: []string{"\xff"}},
	} {
		if got := tell(a); got != want {
			t.Errorf("%+v: %q, want %q", a, got, want)
		}
	}
	for n := -1200; n <= 1200; n++ {
		want := fmt.Sprintf("%d %d 1 %d x\n", n, -n, n/7)
		if got := tell(api.Answer{E: api.Errno(n), Task: -n, Done: true, Mark: n / 7}); got != want {
			t.Errorf("%q, want %q", got, want)
		}
	}
}
