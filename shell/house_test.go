package shell

import (
	"bytes"
	"encoding/hex"
	"regexp"
	"slices"
	"strconv"
	"strings"
	"testing"

	"flitting/api"
)

// house is steps that are asked of the same store, as text.
type house struct {
	k, m   int
	drives []int
	text   string
}

// with is the house with more steps, behind those that it has.
func (h house) with(steps ...string) house {
	h.text += strings.Join(steps, "")
	return h
}

// form is what the line of an answer looks like.
var form = regexp.MustCompile(`\A(0|[1-9][0-9]*) (0|[1-9][0-9]*) ([01]) ([012]) x((?:[0-9a-f]{2})*)((?: x(?:[0-9a-f]{2})*)*)\z`)

// heard is the answer that a line tells.
func heard(t *testing.T, line string) api.Answer {
	t.Helper()
	part := form.FindStringSubmatch(line)
	if part == nil {
		t.Fatalf("%q is no answer", line)
	}
	e, _ := strconv.Atoi(part[1])
	a := api.Answer{E: api.Errno(e), Done: part[3] == "1"}
	a.Task, _ = strconv.Atoi(part[2])
	a.Mark, _ = strconv.Atoi(part[4])
	a.Data, _ = hex.DecodeString(part[5])
	for _, field := range strings.Split(part[6], " x")[1:] {
		key, _ := hex.DecodeString(field)
		a.Keys = append(a.Keys, string(key))
	}
	return a
}

// told is the answer to each step, and whether there is nothing to do behind them.
func (h house) told(t *testing.T) ([]api.Answer, bool) {
	t.Helper()
	lines := strings.Split(Run(h.k, h.m, h.drives, h.text), "\n")
	count := strings.Count(h.text, "\n")
	if len(lines) != count+2 || lines[count+1] != "" || lines[count] != "idle" && lines[count] != "busy" {
		t.Fatalf("of %d steps %d lines are told: %q", count, len(lines), short(strings.Join(lines, "\n")))
	}
	var list []api.Answer
	for _, line := range lines[:count] {
		list = append(list, heard(t, line))
	}
	return list, lines[count] == "idle"
}

// last is the answer to the last step.
func (h house) last(t *testing.T) api.Answer {
	t.Helper()
	list, _ := h.told(t)
	return list[len(list)-1]
}

// idle tells whether there is nothing to do.
func (h house) idle(t *testing.T) bool {
	t.Helper()
	_, idle := h.told(t)
	return idle
}

func same(a, b api.Answer) bool {
	return a.E == b.E && a.Task == b.Task && a.Done == b.Done && a.Mark == b.Mark && bytes.Equal(a.Data, b.Data) && slices.Equal(a.Keys, b.Keys)
}

// holdLast holds the answer to a step that comes behind all others.
func (h house) holdLast(t *testing.T, step string, want api.Answer) {
	t.Helper()
	if got := h.with(step).last(t); !same(got, want) {
		t.Fatalf("%q: %+v, want %+v", step, got, want)
	}
}

// stripes is how many there are of so much data.
func (h house) stripes(size int) int {
	return (size + 8*h.k - 1) / (8 * h.k)
}

// puts is the house with a Put by task 0, from its Call to its end.
func (h house) puts(key, data string) house {
	return h.with(call(api.Put, key, data), runs(0, 2*(h.k+h.m)*h.stripes(len(data))+1))
}

// gets is a Get by task 0 of so much data, from its Call to its end.
func (h house) gets(key string, size int) string {
	return call(api.Get, key, "") + runs(0, h.stripes(size)+1)
}

// ends is what a client is answered at the end of a call that comes behind all others.
func (h house) ends(t *testing.T, op int, key string) api.Answer {
	t.Helper()
	asked := h.with(call(op, key, ""))
	a := asked.last(t)
	if a.E != api.OK {
		t.Fatalf("Call of %d, %q: %+v", op, key, a)
	}
	// As many as a Get may have to go on, and some that come too late.
	behind := asked.with(runs(a.Task, 16))
	list, _ := behind.told(t)
	at := slices.IndexFunc(list[len(list)-16:], func(a api.Answer) bool { return a.Done })
	if at < 0 {
		t.Fatalf("%d of %q has no end", op, key)
	}
	return list[len(list)-16+at]
}

// holdGet holds the data that a Get is answered.
func (h house) holdGet(t *testing.T, key, data string) {
	t.Helper()
	a := h.ends(t, api.Get, key)
	if a.E != api.OK || string(a.Data) != data || len(a.Keys) > 0 {
		t.Fatalf("Get of %q: %+v, want %q", key, a, data)
	}
}

// holdNone holds that there is no such key.
func (h house) holdNone(t *testing.T, key string) {
	t.Helper()
	if a := h.ends(t, api.Get, key); a.E != api.ErrNone || len(a.Data) > 0 {
		t.Fatalf("Get of %q: %+v", key, a)
	}
}

// reading is all keys with their data, each read by a client behind the others.
func (h house) reading(t *testing.T) map[string]string {
	t.Helper()
	h = h.with(call(api.List, "", ""))
	// Each call ends ahead of the next one, so that all are of that task.
	task := h.last(t).Task
	h = h.with(run(task))
	keys := h.last(t).Keys
	for _, key := range keys {
		h = h.with(call(api.Get, key, ""), runs(task, 16))
	}
	list, _ := h.told(t)
	data := map[string]string{}
	for n, a := range slices.DeleteFunc(list[len(list)-17*len(keys):], func(a api.Answer) bool { return !a.Done }) {
		if a.E != api.OK {
			t.Fatalf("Get of %q, that is Listed: %+v", keys[n], a)
		}
		data[keys[n]] = string(a.Data)
	}
	if len(data) != len(keys) {
		t.Fatalf("of the keys %q %d are read", keys, len(data))
	}
	return data
}

// eachCode does what is to be done of each k and m that there may be.
func eachCode(do func(k, m int)) {
	for k := 1; k <= api.MaxK; k++ {
		for m := range api.MaxM + 1 {
			do(k, m)
		}
	}
}

// eachLoss does what is to be done of each m of so many drives, with the steps that lose them.
func eachLoss(many, m int, do func(steps string)) {
	if m == 0 {
		do("")
		return
	}
	for n := range many {
		eachLoss(n, m-1, func(steps string) { do(steps + step(api.StepLose, n)) })
	}
}
