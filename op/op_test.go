package op

import (
	"math"
	"slices"
	"strconv"
	"strings"
	"testing"

	"burgage/api"
)

// keys, values: the edges of what may be, what is next to them, and what is far out.
var keys = []int{math.MinInt, -1 << 32, -64, -1, 0, 1, 31, 62, 63, 64, 65, 128, 1 << 32, math.MaxInt}

var values = []int{math.MinInt, -1 << 31, -1, 0, 1, 17, 2147483646, 2147483647, 2147483648, 2147483649, 1 << 32, 1<<32 + 1, math.MaxInt}

// rightKeys, rightValues: those of them that may be, told one by one.
var rightKeys = []int{0, 1, 31, 62, 63}

var rightValues = []int{0, 1, 17, 2147483646, 2147483647}

// may: whether an operation of these keys and values may be.
func may(o api.Op) bool {
	if o == (api.Op{Write: true, Key: o.Key}) {
		return false
	}
	return slices.Contains(rightKeys, o.Key) && slices.Contains(rightValues, o.Value)
}

// words: an operation in words, told plainly.
func words(o api.Op) string {
	tail := strconv.Itoa(o.Key) + " " + strconv.Itoa(o.Value)
	if o.Write {
		return "w " + tail
	}
	return "r " + tail
}

// all: a read and a write of each key and value.
func all() []api.Op {
	var l []api.Op
	for _, key := range keys {
		for _, value := range values {
			l = append(l, api.Op{Key: key, Value: value}, api.Op{Write: true, Key: key, Value: value})
		}
	}
	return l
}

func TestP4_1Right(t *testing.T) {
	if MaxKeys != 64 {
		t.Error("MaxKeys", MaxKeys)
	}
	for _, o := range all() {
		if got := Right(o); got != may(o) {
			t.Errorf("Right(%v) = %v", o, got)
		}
	}
	for key := -100; key < 200; key++ {
		want := key >= 0 && key <= 63
		if Right(api.Op{Key: key}) != want || Right(api.Op{Write: true, Key: key, Value: 1}) != want || Right(api.Op{Write: true, Key: key}) {
			t.Error("Right of the key", key)
		}
	}
}

// They are such operations of wrong keys and values, too: Right tells.
func TestP4_1ReadWrite(t *testing.T) {
	for _, key := range keys {
		for _, value := range values {
			if got := Read(key, value); got != (api.Op{Key: key, Value: value}) {
				t.Errorf("Read(%d, %d) = %v", key, value, got)
			}
			if got := Write(key, value); got != (api.Op{Write: true, Key: key, Value: value}) {
				t.Errorf("Write(%d, %d) = %v", key, value, got)
			}
		}
	}
}

func TestP4_2Text(t *testing.T) {
	cases := []struct {
		o    api.Op
		want string
	}{
		{api.Op{}, "r 0 0"},
		{api.Op{Write: true}, "w 0 0"},
		{api.Op{Write: true, Key: 3, Value: 17}, "w 3 17"},
		{api.Op{Key: 63, Value: 2147483647}, "r 63 2147483647"},
		{api.Op{Key: -1, Value: -20}, "r -1 -20"},
		{api.Op{Write: true, Key: math.MinInt64, Value: math.MaxInt64}, "w -9223372036854775808 9223372036854775807"},
	}
	for _, c := range cases {
		if got := Text(c.o); got != c.want {
			t.Errorf("Text(%v) = %q, not %q", c.o, got, c.want)
		}
	}
	for _, o := range all() {
		if got := Text(o); got != words(o) {
			t.Errorf("Text(%v) = %q, not %q", o, got, words(o))
		}
	}
}

func TestP4_2ParseOfText(t *testing.T) {
	for _, o := range all() {
		want := api.Op{}
		if may(o) {
			want = o
		}
		if got, ok := Parse(words(o)); got != want || ok != may(o) {
			t.Errorf("Parse(%q) = %v, %v", words(o), got, ok)
		}
	}
}

func TestP4_2ParseOfWrongLines(t *testing.T) {
	lines := []string{
		"", " ", "  ", "   ", "r", "w", "r ", "r  ", "3 17", " 3 17", "  3 17",
		"r 3", "w 3", "r 3 ", "r 3 17 ", " r 3 17", "r  3 17", "r 3  17", "r 3 17 1", "r 3 17 x",
		"R 3 17", "W 3 17", "x 3 17", "rw 3 17", "rr 3 17", "read 3 17", "txn 3 17", "R 0 0",
		"r 03 17", "r 3 017", "r 00 0", "r +3 17", "r 3 -17", "r -0 0", "r 0 -0", "r x 17", "r 3 x",
		"r\t3 17", "r 3\t17", "r 3 17\n", "r 3 17\r", "\nr 3 17", "r 3 17\x00", "r\x00 3 17", "r 3 １", "\xff 3 17", "r \xff 17",
		"r 64 17", "w 64 17", "r 3 2147483648", "w 3 2147483648", "r 18446744073709551616 1", "r 1 18446744073709551617",
		"w 3 0", "w 0 0", "w 63 0", "r 3 17\nr 3 17",
	}
	for _, line := range lines {
		if got, ok := Parse(line); got != (api.Op{}) || ok {
			t.Errorf("Parse(%q) = %v, %v", line, got, ok)
		}
	}
}

// An operation is answered of a line just where the line is its text: all lines of up to 6 of these bytes.
func TestP4_2ParseOfAllSmallLines(t *testing.T) {
	want := map[string]api.Op{}
	for key := range 64 {
		for value := range 1000 {
			want[words(api.Op{Key: key, Value: value})] = api.Op{Key: key, Value: value}
			if value > 0 {
				want[words(api.Op{Write: true, Key: key, Value: value})] = api.Op{Write: true, Key: key, Value: value}
			}
		}
	}
	lines := []string{""}
	for i := 0; i < len(lines); i++ {
		line := lines[i]
		o, ok := want[line]
		if got, gotOK := Parse(line); got != o || gotOK != ok {
			t.Fatalf("Parse(%q) = %v, %v, not %v, %v", line, got, gotOK, o, ok)
		}
		for _, c := range "rw 0164" {
			if len(line) < 6 {
				lines = append(lines, line+string(c))
			}
		}
	}
}

// P1: every call ends without a panic, at long lines; P2: what a call answers hangs on its arguments alone.
func TestP1P2Calls(t *testing.T) {
	for _, piece := range []string{"r", " ", "0", "9", "\xff", "r 1 1", "r 1 1\n", " 1"} {
		line := strings.Repeat(piece, 1<<18)
		if got, ok := Parse(line); got != (api.Op{}) || ok {
			t.Errorf("Parse of %q again and again = %v, %v", piece, got, ok)
		}
	}
	for range 3 {
		for _, o := range all() {
			if Right(o) != may(o) || Text(o) != words(o) {
				t.Error("another answer of the same operation", o)
			}
		}
		if o, ok := Parse("w 3 17"); o != Write(3, 17) || !ok {
			t.Error("another answer of the same line", o, ok)
		}
	}
}
