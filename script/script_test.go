package script

import (
	"bytes"
	"fmt"
	"math"
	"slices"
	"strings"
	"testing"

	"flitting/api"
)

// same tells whether two steps are; no Data and Data of nothing are.
func same(a, b api.Step) bool {
	return a.Kind == b.Kind && a.A == b.A && a.Key == b.Key && bytes.Equal(a.Data, b.Data) && a.Keep == b.Keep
}

// short is the beginning of what may be long.
func short(text string) string {
	return text[:min(len(text), 300)]
}

// hold holds both ways of steps: what is printed, and what is read of it.
func hold(t *testing.T, text string, list ...api.Step) {
	t.Helper()
	if got := Print(list); got != text {
		t.Errorf("Print of %d steps = %q, want %q", len(list), short(got), short(text))
	}
	got, number, e := Parse(text)
	if !slices.EqualFunc(got, list, same) || number != 0 || e != api.OK {
		t.Errorf("Parse(%q) = %s, %d, %d, want %s", short(text), short(fmt.Sprint(got)), number, e, short(fmt.Sprint(list)))
	}
}

// holdNone holds that text has a line that is none, and that this is its number.
func holdNone(t *testing.T, text string, number int) {
	t.Helper()
	list, got, e := Parse(text)
	if len(list) > 0 || got != number || e != api.ErrText {
		t.Errorf("Parse(%q) = %d steps, %d, %d, want %d, %d", short(text), len(list), got, e, number, api.ErrText)
	}
}

// holdBad holds that line, without its end, is none: alone, behind others, in front of others, and between them.
func holdBad(t *testing.T, line string) {
	t.Helper()
	const good = "3 0 0 x x\n"
	holdNone(t, line+"\n", 1)
	holdNone(t, line+"\n"+good, 1)
	holdNone(t, good+line+"\n", 2)
	holdNone(t, good+good+line+"\n"+good, 3)
	holdNone(t, line+"\n"+good+line+"\n", 1)
	holdNone(t, good+line+"\n"+line+"\n"+good, 2)
}

// P24.1, example 1: no steps are a text of nothing.
func TestNothing(t *testing.T) {
	hold(t, "")
	if text := Print([]api.Step{}); text != "" {
		t.Errorf("Print of an empty list = %q", text)
	}
}

// P24.1: the steps that a store knows.
func TestSteps(t *testing.T) {
	list := []api.Step{
		{Kind: api.StepCall, A: api.Put, Key: "key", Data: []byte("some data")},
		{Kind: api.StepCall, A: api.Get, Key: "key"},
		{Kind: api.StepCall, A: api.Del, Key: "K"},
		{Kind: api.StepCall, A: api.List},
		{Kind: api.StepRun, A: 3},
		{Kind: api.StepMove},
		{Kind: api.StepAdd, A: 128},
		{Kind: api.StepDrain, A: 10},
		{Kind: api.StepRemove, A: 11},
		{Kind: api.StepLose, A: 1},
		{Kind: api.StepCrash, A: 17, Keep: 0xff},
		{Kind: api.StepFuse, A: 5},
	}
	lines := []string{
		"1 1 0 x6b6579 x736f6d652064617461\n",
		"1 2 0 x6b6579 x\n",
		"1 3 0 x4b x\n",
		"1 4 0 x x\n",
		"2 3 0 x x\n",
		"3 0 0 x x\n",
		"4 128 0 x x\n",
		"5 10 0 x x\n",
		"6 11 0 x x\n",
		"7 1 0 x x\n",
		"8 17 255 x x\n",
		"9 5 0 x x\n",
	}
	for at, s := range list {
		hold(t, lines[at], s)
		// Each of several is what it is alone, wherever it stands.
		hold(t, strings.Join(lines[:at], ""), list[:at]...)
		hold(t, strings.Join(lines[at:], ""), list[at:]...)
		hold(t, lines[at]+lines[at], s, s)
	}
	hold(t, strings.Join(lines, ""), list...)
}

// P24.1: each field is at its own place.
func TestFields(t *testing.T) {
	hold(t, "1 2 3 x34 x35\n", api.Step{Kind: 1, A: 2, Keep: 3, Key: "4", Data: []byte("5")})
	hold(t, "3 2 1 x35 x34\n", api.Step{Kind: 3, A: 2, Keep: 1, Key: "5", Data: []byte("4")})
	hold(t, "-1 -2 3 x x00\n", api.Step{Kind: -1, A: -2, Keep: 3, Data: []byte{0}})
	hold(t, "-1 -2 3 x00 x\n", api.Step{Kind: -1, A: -2, Keep: 3, Key: "\x00"})
}

// P24.1: any int is a Kind, also one that is no step's, and an A.
func TestNumbers(t *testing.T) {
	numbers := map[int]string{
		0: "0", 1: "1", -1: "-1", 9: "9", 10: "10", -10: "-10", 99: "99", 100: "100", -100: "-100", 1 << 8: "256", -1 << 31: "-2147483648", 1 << 32: "4294967296",
		math.MaxInt64: "9223372036854775807", math.MaxInt64 - 1: "9223372036854775806", math.MinInt64: "-9223372036854775808", math.MinInt64 + 1: "-9223372036854775807",
	}
	for n, text := range numbers {
		hold(t, text+" 0 0 x x\n", api.Step{Kind: n})
		hold(t, "0 "+text+" 0 x x\n", api.Step{A: n})
		hold(t, text+" "+text+" 7 x x\n", api.Step{Kind: n, A: n, Keep: 7})
	}
	for n := -300; n <= 300; n++ {
		hold(t, fmt.Sprintf("%d 0 0 x x\n0 %d 0 x x\n", n, n), api.Step{Kind: n}, api.Step{A: n})
	}
}

// P24.1: a Keep may be above what an int holds.
func TestKeep(t *testing.T) {
	keeps := map[uint64]string{
		0: "0", 1: "1", 9: "9", 10: "10", 1 << 8: "256", 1<<63 - 1: "9223372036854775807", 1 << 63: "9223372036854775808", 1<<63 + 1: "9223372036854775809",
		10_000_000_000_000_000_000: "10000000000000000000", math.MaxUint64 - 1: "18446744073709551614", math.MaxUint64: "18446744073709551615",
	}
	for n, text := range keeps {
		hold(t, "8 0 "+text+" x x\n", api.Step{Kind: 8, Keep: n})
	}
	for bit := range 64 {
		n := uint64(1) << bit
		hold(t, fmt.Sprintf("8 -1 %d x x\n8 0 %d x x\n", n, ^n), api.Step{Kind: 8, A: -1, Keep: n}, api.Step{Kind: 8, Keep: ^n})
	}
}

// P24.1: numbers that are beyond their ends are none, be it by one, or by a multiple of what the bits hold.
func TestNumbersBeyond(t *testing.T) {
	for _, n := range []string{
		"9223372036854775808", "9223372036854775809", "-9223372036854775809", "-9223372036854775810", "10000000000000000000", "-10000000000000000000",
		"18446744073709551615", "18446744073709551616", "18446744073709551617", "-18446744073709551615", "92233720368547758070", "340282366920938463463374607431768211456",
		strings.Repeat("9", 400), "-" + strings.Repeat("9", 400),
	} {
		holdBad(t, n+" 0 0 x x")
		holdBad(t, "0 "+n+" 0 x x")
	}
	for _, n := range []string{"18446744073709551616", "18446744073709551617", "18446744073709551625", "20000000000000000000", "184467440737095516150", "36893488147419103232", strings.Repeat("9", 400)} {
		holdBad(t, "8 0 "+n+" x x")
	}
}

// P24.1: of whatever is no number as it is written, none is taken for one.
func TestNumbersBad(t *testing.T) {
	for _, n := range []string{
		"", "-", "+", "--1", "-+1", "+-1", "+1", "+0", "-0", "-00", "00", "01", "007", "-01", "-007", "0000000000000000000000",
		"1-", "1+", "1.", "1.0", ".1", "1e0", "1_0", "_1", "0x1", "0b1", "0o1", "0X1", "a", "f", "1a", "1x", "x", "x1", "1,0", "1'0", "1\x00", "\x001", "\xff",
		"\u0661", "\uff11", "\u0967", "1\u0661", "\u0661\u0662", "\u00b2", "\u2460", "\u22121", "\u20111", "\U0001d7ce", "NaN", "Inf", "inf", "nil", "true",
	} {
		holdBad(t, n+" 0 0 x x")
		holdBad(t, "0 "+n+" 0 x x")
		holdBad(t, "0 0 "+n+" x x")
	}
	// A Keep is never below 0.
	for _, n := range []string{"-1", "-10", "-9223372036854775808", "-18446744073709551615"} {
		holdBad(t, "0 0 "+n+" x x")
	}
}

// all is every byte.
func all() []byte {
	b := make([]byte, 256)
	for at := range b {
		b[at] = byte(at)
	}
	return b
}

// P24.1: each byte of a Key, and of Data, is two small digits.
func TestBytes(t *testing.T) {
	var each strings.Builder
	for _, b := range all() {
		two := fmt.Sprintf("%02x", b)
		each.WriteString(two)
		hold(t, "0 0 0 x"+two+" x\n", api.Step{Key: string([]byte{b})})
		hold(t, "0 0 0 x x"+two+"\n", api.Step{Data: []byte{b}})
		hold(t, "0 0 0 x"+two+"0a x0a"+two+"\n", api.Step{Key: string([]byte{b, 10}), Data: []byte{10, b}})
	}
	hold(t, "0 0 0 x"+each.String()+" x\n", api.Step{Key: string(all())})
	hold(t, "0 0 0 x x"+each.String()+"\n", api.Step{Data: all()})
}

// P24.1: bytes that a line has its own use for, and such as are no text.
func TestBytesOdd(t *testing.T) {
	for text, digits := range map[string]string{
		"\n": "0a", "\n\n": "0a0a", "\r\n": "0d0a", " ": "20", "  ": "2020", "x": "78", "x x": "782078", "-1": "2d31", "0": "30", "00": "3030", "3 0 0 x x\n": "3320302030207820780a",
		"\x00": "00", "\xff": "ff", "\xc3": "c3", "\xed\xa0\x80": "eda080", "\u00e4": "c3a4", "\u2028": "e280a8", "\x00\x00": "0000",
	} {
		hold(t, "1 1 0 x"+digits+" x\n", api.Step{Kind: 1, A: 1, Key: text})
		hold(t, "1 1 0 x x"+digits+"\n", api.Step{Kind: 1, A: 1, Data: []byte(text)})
		hold(t, "1 1 0 x"+digits+" x"+digits+"\n3 0 0 x x\n", api.Step{Kind: 1, A: 1, Key: text, Data: []byte(text)}, api.Step{Kind: 3})
	}
}

// P24.1: a Key and Data of any length, be it one that no object has.
func TestLengths(t *testing.T) {
	for _, size := range []int{0, 1, 2, 3, api.MaxKey - 1, api.MaxKey, api.MaxKey + 1, api.MaxData - 1, api.MaxData, api.MaxData + 1, 255, 256, 4095, 4096, 1 << 16} {
		long, digits := strings.Repeat("~", size), strings.Repeat("7e", size)
		hold(t, "1 1 0 x"+digits+" x\n", api.Step{Kind: 1, A: 1, Key: long})
		hold(t, "1 1 0 x x"+digits+"\n", api.Step{Kind: 1, A: 1, Data: []byte(long)})
		holdNone(t, "1 1 0 x"+digits+" x"+digits+"7\n", 1)
		holdNone(t, "1 1 0 x"+digits+"e x"+digits+"\n", 1)
	}
}

// P24.1: of whatever is no x with two small digits for each byte, nothing is taken for one.
func TestBytesBad(t *testing.T) {
	for _, field := range []string{
		"", "X", "X61", "0x61", "61", "x6", "x610", "x61626", "x6g", "xg6", "xGG", "x6A", "xA6", "xAA", "xFF", "xfF", "xFf", "x61A0", "xx", "xx61", "x61x", "x61x62", "-x61", "+x61", "x-1", "x+1", "x-61", "x_1", "x6_", "x6_1", "x0x", "x0x61",
		"\\x61", "x61,62", "x6.", "x6:", "x6/", "x6`", "x6@", "x\x00", "x6\x00", "x\x00\x00", "x\xff\xff", "x6\xff", "y61", "w61", "\xd761", "\u044561", "x\u0661", "x\uff16\uff11", "x6\u0661", "x\u00e4", "nil", "\"a\"", "a",
	} {
		holdBad(t, "0 0 0 "+field+" x")
		holdBad(t, "0 0 0 x "+field)
		holdBad(t, "0 0 0 "+field+" "+field)
	}
}

// P24.1: a digit that stands for a byte's half is one of sixteen, whatever it looks like.
func TestDigits(t *testing.T) {
	for _, b := range all() {
		digit := string([]byte{b})
		good := strings.Contains("0123456789abcdef", digit)
		for _, line := range []string{"0 0 0 x" + digit + "0 x", "0 0 0 x0" + digit + " x", "0 0 0 x x" + digit + "0", "0 0 0 x x0" + digit, "0 0 0 x61" + digit + "062 x", "0 0 0 x x610" + digit + "62"} {
			if good {
				if list, _, e := Parse(line + "\n"); e != api.OK || Print(list) != line+"\n" {
					t.Errorf("Parse(%q): %d", line, e)
				}
			} else if digit != "\n" {
				holdBad(t, line)
			}
		}
	}
}

// P24.1: there are five fields, and a blank between two of them.
func TestFieldsBad(t *testing.T) {
	for _, line := range []string{
		"", " ", "    ", "     ", "x", "x x", "0", "0 0", "0 0 0", "0 0 0 x", "0 0 0 x61", "0 0 x x", "0 x x", "1 1 x6b x64", "0 0 0 0 x x", "0 0 0 x x x", "0 0 0 x x 0", "0 0 0 x61 x62 x63", "0 0 0 0 0 x x",
		"x 0 0 0 x", "x x 0 0 0", "0 x 0 0 x", "0 0 x 0 x", "0 0 x x 0", "0 x x 0 0", "x61 0 0 0 x62",
		" 0 0 0 x x", "0 0 0 x x ", "0  0 0 x x", "0 0  0 x x", "0 0 0  x x", "0 0 0 x  x", "  0 0 0 x x", "0 0 0 x x  ", "0 0 0 xx", "0 0 0x x", "0 00 x x", "00 0 x x",
		"0 0 0 x 61 x", "0 0 0 x x 61", "0 0 0 x61 62 x", "0 0 0 x x61 62", "0 0 0  x", "0 0  x x", "0  0 x x", " 0 0 x x",
		"# 0 0 0 x x", "0 0 0 x x # no more", "0 0 0 x x;", "0;0;0;x;x", "0,0,0,x,x", "0 0 0 x x\r", "\r0 0 0 x x", "\ufeff0 0 0 x x", "0 0 0 x x\x00", "\x00",
	} {
		holdBad(t, line)
	}
	for _, b := range all() {
		if b == ' ' || b == '\n' {
			continue
		}
		other := string([]byte{b})
		for _, line := range []string{"7" + other + "7 7 x61 x62", "7 7" + other + "7 x61 x62", "7 7 7" + other + "x61 x62", "7 7 7 x61" + other + "x62"} {
			holdBad(t, line)
		}
	}
	for _, other := range []string{"\t", "\v", "\f", "\r", "\u0085", "\u00a0", "\u2003", "\u3000", "%20", ""} {
		holdBad(t, "0"+other+"0 0 x x")
		holdBad(t, "0 0 0 x"+other+"x")
		holdBad(t, other+" 0 0 0 x x")
		holdBad(t, "0 0 0 x x "+other)
	}
}

// P24.1: each line has an end, and it is a byte 10.
func TestEnd(t *testing.T) {
	const good = "1 1 0 x6b x64\n"
	for many := range 4 {
		text := strings.Repeat(good, many)
		// The last line is whole, but for its end; or what is there of it is a piece of a line.
		for size := 1; size < len(good); size++ {
			holdNone(t, text+good[:size], many+1)
		}
		for _, end := range []string{"\r", "\r\n", " \n", "\x00", "\u0085", "\u2028", "\\n", "\v", "\f"} {
			holdNone(t, text+strings.TrimSuffix(good, "\n")+end, many+1)
			holdNone(t, text+strings.TrimSuffix(good, "\n")+end+good, many+1)
		}
		// An end with nothing ahead of it is a line that is none.
		for behind := range 3 {
			holdNone(t, text+"\n"+strings.Repeat(good, behind), many+1)
			holdNone(t, text+"\n\n"+strings.Repeat(good, behind), many+1)
			holdNone(t, text+"\r\n"+strings.Repeat(good, behind), many+1)
		}
	}
}

// P24.1: of several lines that are none the first one is told, and a last one without an end is no more than the others.
func TestFirst(t *testing.T) {
	const good = "3 0 0 x x\n"
	bad := []string{"\n", "3 0 0 x\n", "03 0 0 x x\n", "3 0 0 x x \n", "3 0 0 x X\n", "no line\n"}
	for at, a := range bad {
		for _, b := range bad {
			for many := range 5 {
				ahead, between := strings.Repeat(good, many), strings.Repeat(good, at)
				holdNone(t, ahead+a+between+b, many+1)
				holdNone(t, ahead+a+between+b+good, many+1)
				holdNone(t, ahead+a+between+"3 0 0 x x", many+1)
				holdNone(t, ahead+between+"3 0 0 x x", many+at+1)
			}
		}
	}
	for _, many := range []int{99, 1000, 70000} {
		text := strings.Repeat(good, many)
		list, number, e := Parse(text)
		if len(list) != many || number != 0 || e != api.OK {
			t.Errorf("%d lines: %d steps, %d, %d", many, len(list), number, e)
		}
		holdNone(t, text+"3 0 0 x x", many+1)
		holdNone(t, text+"\n"+text, many+1)
	}
}

// R3: beside ErrText there are no steps, whatever was read ahead of it; beside the steps there is no line.
func TestBeside(t *testing.T) {
	if list, number, e := Parse("1 1 0 x6b x64\n2 0 0 x x\n1 1 0 x6b x64"); list != nil || number != 3 || e != api.ErrText {
		t.Errorf("%+v, %d, %d", list, number, e)
	}
	if list, number, e := Parse("1 1 0 x6b x64\n2 0 0 x x\n"); len(list) != 2 || number != 0 || e != api.OK {
		t.Errorf("%+v, %d, %d", list, number, e)
	}
	if list, number, e := Parse(""); len(list) != 0 || number != 0 || e != api.OK {
		t.Errorf("%+v, %d, %d", list, number, e)
	}
}
