package script

import (
	"math"
	"slices"
	"strconv"
	"strings"
	"testing"

	"burgage/api"
	"burgage/history"
)

// r, w: a read and a write.
func r(key, value int) api.Op { return api.Op{Key: key, Value: value} }

func w(key, value int) api.Op { return api.Op{Write: true, Key: key, Value: value} }

// of: a transaction of a session, from a stamp to another one.
func of(session, begin, commit int, ops ...api.Op) api.Txn {
	return api.Txn{Session: session, Begin: begin, Commit: commit, Ops: ops}
}

// printed: what Print is to answer.
func printed(h []api.Txn) string {
	text := ""
	for _, t := range h {
		text += "txn " + strconv.Itoa(t.Session) + " " + strconv.Itoa(t.Begin) + " " + strconv.Itoa(t.Commit) + "\n"
		for _, o := range t.Ops {
			if o.Write {
				text += "w "
			} else {
				text += "r "
			}
			text += strconv.Itoa(o.Key) + " " + strconv.Itoa(o.Value) + "\n"
		}
	}
	return text
}

// words: the numbers behind a first word, told by the one text that they have; none: the line is another one.
func words(line, first string, many int) []int {
	pieces := strings.Split(line, " ")
	if len(pieces) != many+1 || pieces[0] != first {
		return nil
	}
	var l []int
	for _, p := range pieces[1:] {
		n, err := strconv.ParseInt(p, 10, 64)
		if err != nil || n < 0 || n > 2147483647 || strconv.FormatInt(n, 10) != p {
			return nil
		}
		l = append(l, int(n))
	}
	return l
}

// lines: what Lines is to answer.
func lines(l []string) ([]api.Txn, int) {
	var h []api.Txn
	for i, line := range l {
		if n := words(line, "txn", 3); n != nil {
			h = append(h, of(n[0], n[1], n[2]))
			continue
		}
		n, write := words(line, "r", 2), false
		if n == nil {
			n, write = words(line, "w", 2), true
		}
		if n == nil || n[0] > 63 || write && n[1] == 0 || len(h) == 0 {
			return nil, i + 1
		}
		t := &h[len(h)-1]
		t.Ops = append(t.Ops, api.Op{Write: write, Key: n[0], Value: n[1]})
	}
	return h, 0
}

// parse: what Parse is to answer.
func parse(text string) ([]api.Txn, int, api.Errno) {
	if len(text) > 1048576 {
		return nil, 0, api.ErrLong
	}
	all := strings.Split(text, "\n")
	last := len(all) - 1
	h, bad := lines(all[:last])
	switch {
	case bad > 0:
		return nil, bad, api.ErrWord
	case all[last] != "":
		return nil, last + 1, api.ErrWord
	case history.Check(h) != api.OK:
		return nil, 0, history.Check(h)
	}
	return h, 0, api.OK
}

// rows: all rows of up to so many of some lines.
func rows(of []string, long int) [][]string {
	all := [][]string{nil}
	for from := 0; long > 0; long-- {
		to := len(all)
		for _, l := range all[from:to] {
			for _, line := range of {
				all = append(all, append(slices.Clone(l), line))
			}
		}
		from = to
	}
	return all
}

// long: so many transactions of so many reads of 0 each, which may be.
func long(txns, ops int) []api.Txn {
	var h []api.Txn
	for i := range txns {
		h = append(h, of(i%64, 2*i, 2*i+1, make([]api.Op, ops)...))
	}
	return h
}

// good: histories that may be.
func good() [][]api.Txn {
	return [][]api.Txn{
		nil,
		{of(0, 1, 2, w(3, 5))},
		{of(63, 0, 2147483647, w(63, 2147483647), r(63, 2147483647), r(0, 0))},
		{of(0, 1, 4, w(0, 5), w(1, 6)), of(1, 2, 3, r(0, 5), w(1, 7)), of(0, 5, 6, r(1, 7), r(0, 0))},
		{of(5, 8, 9, r(10, 30), w(10, 30)), of(2, 3, 4, r(10, 30), r(9, 0), r(10, 30)), of(2, 10, 20, w(9, 100))},
		long(64, 16),
		long(16, 64),
		long(64, 1),
	}
}

func TestP7_1Print(t *testing.T) {
	list := []struct {
		h    []api.Txn
		want string
	}{
		{nil, ""},
		{[]api.Txn{}, ""},
		{[]api.Txn{of(0, 1, 2, w(3, 5))}, "txn 0 1 2\nw 3 5\n"},
		{[]api.Txn{of(0, 1, 2)}, "txn 0 1 2\n"},
		{[]api.Txn{of(1, 5, 6, r(0, 7), w(0, 7)), of(0, 1, 2, r(63, 0))}, "txn 1 5 6\nr 0 7\nw 0 7\ntxn 0 1 2\nr 63 0\n"},
		{[]api.Txn{of(7, 7, 7), of(7, 7, 7), of(-1, -2, 1<<40, w(63, 2147483647), w(63, 2147483647))}, "txn 7 7 7\ntxn 7 7 7\ntxn -1 -2 1099511627776\nw 63 2147483647\nw 63 2147483647\n"},
	}
	for _, c := range list {
		if got := Print(c.h); got != c.want {
			t.Errorf("Print(%v) = %q, not %q", c.h, got, c.want)
		}
	}
	for _, h := range append(good(), long(70, 2), long(3, 100)) {
		if got := Print(h); got != printed(h) {
			t.Errorf("Print of %d transactions = %q", len(h), got)
		}
	}
}

func TestP7_2Lines(t *testing.T) {
	list := []struct {
		l    []string
		want []api.Txn
		bad  int
	}{
		{nil, nil, 0},
		{[]string{"txn 0 1 2", "w 3 5"}, []api.Txn{of(0, 1, 2, w(3, 5))}, 0},
		{[]string{"txn 0 1 2"}, []api.Txn{of(0, 1, 2)}, 0},
		{[]string{"txn 0 9 2", "txn 0 9 2", "r 63 2147483647"}, []api.Txn{of(0, 9, 2), of(0, 9, 2, r(63, 2147483647))}, 0},
		{[]string{"txn 64 2147483647 2147483647", "r 0 0", "w 0 1", "r 0 0"}, []api.Txn{of(64, 2147483647, 2147483647, r(0, 0), w(0, 1), r(0, 0))}, 0},
		{[]string{"txn 1 2 3", "w 0 1", "txn 2 3 4", "w 0 1", "w 0 1"}, []api.Txn{of(1, 2, 3, w(0, 1)), of(2, 3, 4, w(0, 1), w(0, 1))}, 0},
		{[]string{"w 3 5"}, nil, 1},
		{[]string{"r 3 0", "txn 0 1 2"}, nil, 1},
		{[]string{"r 3 0", "x"}, nil, 1},
		{[]string{""}, nil, 1},
		{[]string{"txn 0 1 2", ""}, nil, 2},
		{[]string{"txn 0 1 2", "w 3 5", "w 3", "w"}, nil, 3},
		{[]string{"txn 0 1 2", "w 3 5", "txn 0 1", "txn 0 1 2"}, nil, 3},
		{[]string{"txn 0 1 2", "w 3 5", "txn 0 3 4", "w 64 5"}, nil, 4},
	}
	for _, c := range list {
		if h, bad := Lines(c.l...); !history.Same(h, c.want) || bad != c.bad {
			t.Errorf("Lines(%q) = %v, %d, not %v, %d", c.l, h, bad, c.want, c.bad)
		}
	}
}

// A line that is neither a transaction's nor an operation's is told by its number, wherever it stands.
func TestP7_2LinesOfWrongOnes(t *testing.T) {
	wrong := []string{
		"", " ", "txn", "txn ", "txn 0", "txn 0 1", "txn 0 1 2 3", "txn 0 1 2 ", " txn 0 1 2", "txn  0 1 2", "txn 0 1  2",
		"txn 0 1 02", "txn 00 1 2", "txn -1 1 2", "txn 0 +1 2", "txn 0 1 2147483648", "txn 2147483648 1 2", "txn 0 1 x", "txn\t0 1 2",
		"Txn 0 1 2", "tx 0 1 2", "txns 0 1 2", "txn0 1 2", "txn 0 1 2\n", "txn 0 1 2\r", "\ntxn 0 1 2", "t 0 1 2", "r 0 1 2", "w 0 1 2", " 0 1 2", "0 1 2",
		"r", "w", "r 0", "w 0", "r 0 ", "w 0 1 ", " r 0 0", "r 0  0", "r 64 0", "w 64 1", "w 0 0", "r 0 2147483648", "w 0 2147483648", "r -1 0", "r 0 -1",
		"r 01 0", "r 0 00", "w 0 01", "R 0 0", "W 0 1", "read 0 0", "txn 0 1w 0 1", "r 0 0\n", "r 0 0\r", "x 0 0", "\xff", "\x00", "r 0 0;", "# r 0 0",
	}
	for _, line := range wrong {
		for _, c := range []struct {
			l   []string
			bad int
		}{
			{[]string{line}, 1},
			{[]string{line, "txn 0 1 2", "w 0 1"}, 1},
			{[]string{"txn 0 1 2", line, "w 0 1"}, 2},
			{[]string{"txn 0 1 2", "w 0 1", line}, 3},
			{[]string{"txn 0 1 2", "w 0 1", "txn 0 3 4", line, line, "r 0 0"}, 4},
			{[]string{"w 0 1", line, "txn 0 1 2"}, 1},
		} {
			if h, bad := Lines(c.l...); len(h) != 0 || bad != c.bad {
				t.Errorf("Lines(%q) = %v, %d, not %d", c.l, h, bad, c.bad)
			}
		}
	}
}

func TestP7_2LinesOfAllSmallRows(t *testing.T) {
	for _, l := range rows([]string{"txn 0 1 2", "txn 70 4 3", "r 0 0", "w 63 9", "w 0 0", "", "txn 0 1", "r 5 6 7"}, 5) {
		want, wantBad := lines(l)
		if h, bad := Lines(l...); !history.Same(h, want) || bad != wantBad {
			t.Fatalf("Lines(%q) = %v, %d, not %v, %d", l, h, bad, want, wantBad)
		}
	}
}

func TestP7_3Errors(t *testing.T) {
	if MaxText != 1048576 {
		t.Error("MaxText", MaxText)
	}
	// of64: 64 transactions that may be. full: transactions without operations, that fill MaxText to the byte.
	of64 := printed(long(64, 1))
	full := strings.Repeat("txn 0 1 2\n", 104856) + "txn 100 100 200\n"
	list := []struct {
		what, text string
		line       int
		e          api.Errno
	}{
		{"an empty text", "", 0, api.OK},
		{"a transaction", "txn 0 1 2\nw 3 5\n", 0, api.OK},
		{"an operation alone", "w 0 5\n", 1, api.ErrWord},
		{"an empty line", "\n", 1, api.ErrWord},
		{"an empty line at the end", "txn 0 1 2\nw 3 5\n\n", 3, api.ErrWord},
		{"an empty line at the beginning", "\ntxn 0 1 2\nw 3 5\n", 1, api.ErrWord},
		{"an ending of two bytes", "txn 0 1 2\r\nw 3 5\r\n", 1, api.ErrWord},
		{"a last line without its end", "txn 0 1 2\nw 3 5", 2, api.ErrWord},
		{"a first line without its end", "txn 0 1 2", 1, api.ErrWord},
		{"a wrong line without its end", "x", 1, api.ErrWord},
		{"a blank", " ", 1, api.ErrWord},
		{"a wrong last line without its end", "txn 0 1 2\nw 3 5\nx", 3, api.ErrWord},
		{"a wrong line, ahead of one without its end", "txn 0 1 2\nw 3 5\nx\nw 3 6", 3, api.ErrWord},
		{"a wrong line, ahead of a wrong one without its end", "x\ny", 1, api.ErrWord},
		{"two wrong lines", "txn 0 1 2\nw 3 0\nx\n", 2, api.ErrWord},
		{"no operations", "txn 0 1 2\n", 0, api.ErrForm},
		{"a wrong session", "txn 64 1 2\nw 3 5\n", 0, api.ErrForm},
		{"stamps that don't rise", "txn 0 2 2\nw 3 5\n", 0, api.ErrForm},
		{"a read of what nobody writes", "txn 0 1 2\nr 0 5\n", 0, api.ErrForm},
		{"two that write one value", "txn 0 1 2\nw 0 5\ntxn 1 3 4\nw 1 5\n", 0, api.ErrForm},
		{"no operations, without its end", "txn 0 1 2\ntxn 0 1 2", 2, api.ErrWord},
		{"no operations, and a wrong line", "txn 0 1 2\ntxn 0 1 2\nx\n", 3, api.ErrWord},
		{"64 transactions", of64, 0, api.OK},
		{"65 transactions", of64 + "txn 0 200 201\nr 0 0\n", 0, api.ErrLarge},
		{"65 transactions, wrong", of64 + "txn 0 0 0\n", 0, api.ErrLarge},
		{"65 transactions, the last one without its end", of64 + "txn 0 200 201\nr 0 0", 130, api.ErrWord},
		{"65 transactions, and a wrong line", of64 + "txn 0 200 201\nr 0 0\nr\n", 131, api.ErrWord},
		{"1025 operations", printed(long(64, 16)) + "r 0 0\n", 0, api.ErrLarge},
		{"just MaxText bytes, too many transactions", full, 0, api.ErrLarge},
		{"just MaxText bytes, without the last end", full[:1048575] + "0", 104857, api.ErrWord},
		{"just MaxText bytes, of ends", strings.Repeat("\n", 1048576), 1, api.ErrWord},
		{"just MaxText bytes in a line", strings.Repeat("x", 1048576), 1, api.ErrWord},
		{"one byte more", full + "\n", 0, api.ErrLong},
		{"one byte more, of ends", strings.Repeat("\n", 1048577), 0, api.ErrLong},
		{"one byte more in a line", strings.Repeat("x", 1048577), 0, api.ErrLong},
		{"more bytes, of fewer runes", strings.Repeat("\u00e4", 600000), 0, api.ErrLong},
		{"many bytes more", strings.Repeat(full, 9), 0, api.ErrLong},
	}
	for _, c := range list {
		h, line, e := Parse(c.text)
		if line != c.line || e != c.e || e != api.OK && len(h) != 0 {
			t.Errorf("Parse of %s = %d transactions, %d, %d, not %d, %d", c.what, len(h), line, e, c.line, c.e)
		}
	}
}

// What was printed is read again, and what was read is printed again.
func TestP7_3ParseOfPrint(t *testing.T) {
	for _, want := range good() {
		h, line, e := Parse(Print(want))
		if !history.Same(h, want) || line != 0 || e != api.OK {
			t.Errorf("Parse of Print of %v = %v, %d, %d", want, h, line, e)
		}
	}
}

func TestP7_3ParseOfAllSmallTexts(t *testing.T) {
	var many [api.ErrLong + 1]int
	for _, l := range rows([]string{"txn 0 1 2", "txn 0 3 4", "txn 1 0 5", "r 0 0", "w 0 7", "r 0 7", "w 1 9", "w 0"}, 5) {
		text := strings.Join(l, "\n")
		for _, x := range []string{text, text + "\n"} {
			want, wantLine, wantE := parse(x)
			many[wantE]++
			h, line, e := Parse(x)
			if !history.Same(h, want) || line != wantLine || e != wantE {
				t.Fatalf("Parse(%q) = %v, %d, %d, not %v, %d, %d", x, h, line, e, want, wantLine, wantE)
			}
			if e == api.OK && Print(h) != x {
				t.Fatalf("Print of Parse of %q = %q", x, Print(h))
			}
		}
	}
	if many[api.OK] < 100 || many[api.ErrForm] < 100 || many[api.ErrWord] < 100 {
		t.Error("the small texts are too much alike", many)
	}
}

// P2: what is handed in stays as it was, its spare room too; what is answered is apart, and the same each time.
func TestP2Apart(t *testing.T) {
	room := []api.Op{w(0, 1), r(0, 1), w(0, 2), w(77, 78)}
	h := []api.Txn{of(0, 0, 1, room[:3]...), of(9, 9, 9)}
	l := []string{"txn 0 1 2", "w 0 1", "w 0 2", "txn 1 3 4", "w 0 3", "r 0 3", "txn 2 5 6", "w 0 4", "x", "y"}
	was, text := slices.Clone(l), strings.Join(l[:8], "\n")+"\n"
	want := []api.Txn{of(0, 1, 2, w(0, 1), w(0, 2)), of(1, 3, 4, w(0, 3), r(0, 3)), of(2, 5, 6, w(0, 4))}
	for range 200 {
		if got := Print(h[:1]); got != "txn 0 0 1\nw 0 1\nr 0 1\nw 0 2\n" {
			t.Fatal("another answer", got)
		}
		one, bad := Lines(l[:8]...)
		other, line, e := Parse(text)
		if bad != 0 || line != 0 || e != api.OK || !history.Same(one, want) || !history.Same(other, want) {
			t.Fatal("another answer", one, bad, other, line, e)
		}
		for _, got := range [][]api.Txn{one, other} {
			_ = append(got[0].Ops, w(9, 9), w(9, 9), w(9, 9))
			_ = append(got[1].Ops, w(9, 9), w(9, 9), w(9, 9))
			if !history.Same(got, want) {
				t.Fatal("two lists of one answer share memory", got)
			}
			got[0].Ops[1], got[1].Session = w(50, 50), 50
		}
	}
	if !slices.Equal(l, was) || !slices.Equal(room, []api.Op{w(0, 1), r(0, 1), w(0, 2), w(77, 78)}) || h[1].Session != 9 {
		t.Error("what was handed in is changed", l, room, h)
	}
}

// P1: every call ends without a panic, at wrong numbers, odd bytes and many lines.
func TestP1NoPanic(t *testing.T) {
	numbers := []int{math.MinInt, -1 << 32, -1, 0, 63, 64, 1 << 31, math.MaxInt}
	var odd []api.Txn
	for _, a := range numbers {
		for _, b := range numbers {
			odd = append(odd, of(a, b, a, w(a, b), r(b, a)), of(b, a, b))
		}
	}
	Print(odd)
	if got := Print(make([]api.Txn, 1<<16)); len(got) != 10<<16 {
		t.Error("Print of many transactions has", len(got), "bytes")
	}
	lines := make([]string, 1<<18)
	if _, bad := Lines(lines...); bad != 1 {
		t.Error("Lines of empty ones", bad)
	}
	for i := range lines {
		lines[i] = "txn 0 1 2"
	}
	if h, bad := Lines(lines...); bad != 0 || len(h) != len(lines) {
		t.Error("Lines of many", len(h), bad)
	}
	for i := range lines[1:] {
		lines[1+i] = "r 0 0"
	}
	if h, bad := Lines(lines...); bad != 0 || len(h) != 1 || len(h[0].Ops) != len(lines)-1 {
		t.Error("Lines of one with many operations", len(h), bad)
	}
	for _, text := range []string{"\xff", "\x00\n", "txn", " ", "txn 0 1 2\nr 0 0\n", "\n", "r 0 0\n", "\u00e4\n"} {
		for _, many := range []int{1, 2, 3, 1000, 1 << 17, 1 << 20} {
			x := strings.Repeat(text, many)
			Parse(x)
			Lines(x)
		}
	}
}
