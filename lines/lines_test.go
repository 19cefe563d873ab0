package lines

import (
	"encoding/hex"
	"strings"
	"testing"
)

// A line has a blank between two fields, whatever they are, and one end.
func TestOf(t *testing.T) {
	for want, fields := range map[string][]string{
		"\n":                                   nil,
		"one\n":                                {"one"},
		"0 x x6b\n":                            {"0", "x", "x6b"},
		" \n":                                  {"", ""},
		"a  b \n":                              {"a", "", "b", ""},
		"a b\n c\n\n":                          {"a b\n", "c\n"},
		"1" + strings.Repeat(" 1", 999) + "\n": strings.Split(strings.Repeat("1", 1000), ""),
	} {
		if got := Of(fields...); got != want {
			t.Errorf("Of(%q) = %q, want %q", fields, got, want)
		}
	}
}

// A line leaves its fields, and the room behind them, as they were.
func TestOfMemory(t *testing.T) {
	fields := []string{"a", "b", "spare"}
	if got := Of(fields[:2]...); got != "a b\n" || fields[0] != "a" || fields[1] != "b" || fields[2] != "spare" {
		t.Errorf("%q, %q", got, fields)
	}
}

// Any bytes are two small digits each.
func TestDigits(t *testing.T) {
	var every []byte
	for b := range 256 {
		every = append(every, byte(b))
		for _, bytes := range []string{string(every), string(every[b:]), string([]byte{byte(b), 10}), string([]byte{' ', byte(b)})} {
			if got, want := Digits(bytes), "x"+hex.EncodeToString([]byte(bytes)); got != want {
				t.Errorf("Digits(%q) = %q, want %q", bytes, got, want)
			}
		}
	}
	for bytes, want := range map[string]string{"": "x", "\x00": "x00", "\xff\n ": "xff0a20", "x": "x78", "\u00e4": "xc3a4", "\xc3": "xc3"} {
		if got := Digits(bytes); got != want {
			t.Errorf("Digits(%q) = %q, want %q", bytes, got, want)
		}
	}
}
