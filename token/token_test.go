package token

import (
	"math"
	"slices"
	"strconv"
	"strings"
	"testing"
)

// texts: all texts of some bytes, up to so long.
func texts(alphabet string, long int) []string {
	all := []string{""}
	for from := 0; long > 0; long-- {
		to := len(all)
		for _, s := range all[from:to] {
			for _, c := range []byte(alphabet) {
				all = append(all, s+string([]byte{c}))
			}
		}
		from = to
	}
	return all
}

// number: what Number is to answer, told by the one text that a number has.
func number(w string) (int, bool) {
	n, err := strconv.ParseInt(w, 10, 64)
	if err != nil || n < 0 || n > 2147483647 || strconv.FormatInt(n, 10) != w {
		return 0, false
	}
	return int(n), true
}

// pieces: what stands between the bytes that part s, gone through byte by byte.
func pieces(s string, part byte) []string {
	all := []string{""}
	for _, c := range []byte(s) {
		if c == part {
			all = append(all, "")
			continue
		}
		all[len(all)-1] += string([]byte{c})
	}
	return all
}

func TestP3_1Number(t *testing.T) {
	if Most != 2147483647 {
		t.Error("Most", Most)
	}
	cases := []struct {
		w    string
		want int
		ok   bool
	}{
		{"0", 0, true},
		{"9", 9, true},
		{"10", 10, true},
		{"1000000000", 1000000000, true},
		{"2147483639", 2147483639, true},
		{"2147483640", 2147483640, true},
		{"2147483646", 2147483646, true},
		{"2147483647", 2147483647, true},
		{"2147483648", 0, false},
		{"2147483649", 0, false},
		{"2147483650", 0, false},
		{"2147483657", 0, false},
		{"4294967296", 0, false},
		{"4294967297", 0, false},
		{"9999999999", 0, false},
		{"10000000000", 0, false},
		{"9223372036854775807", 0, false},
		{"18446744073709551616", 0, false},
		{"18446744073709551617", 0, false},
		{"36893488147419103233", 0, false},
		{strings.Repeat("9", 1000), 0, false},
		{"1" + strings.Repeat("0", 64), 0, false},
		{"", 0, false},
		{"00", 0, false},
		{"01", 0, false},
		{"02147483647", 0, false},
		{strings.Repeat("0", 1000) + "1", 0, false},
		{"-0", 0, false},
		{"-1", 0, false},
		{"+0", 0, false},
		{"+7", 0, false},
		{"1-", 0, false},
		{" 1", 0, false},
		{"1 ", 0, false},
		{"1\n", 0, false},
		{"1\x00", 0, false},
		{"1_0", 0, false},
		{"0x1", 0, false},
		{"1e3", 0, false},
		{"1.0", 0, false},
		{"a", 0, false},
		{"/", 0, false},
		{":", 0, false},
		{"\xff", 0, false},
		{"\xb1", 0, false},
		{"１", 0, false},
		{"٣", 0, false},
	}
	for _, c := range cases {
		if got, ok := Number(c.w); got != c.want || ok != c.ok {
			t.Errorf("Number(%q) = %d, %v, not %d, %v", c.w, got, ok, c.want, c.ok)
		}
	}
}

func TestP3_1NumberOfAllSmallWords(t *testing.T) {
	words := texts("0129+-_ /:x\x00\n\xb1", 4)
	for n := range 256 {
		words = append(words, string([]byte{byte(n)}), string([]byte{'1', byte(n)}), string([]byte{byte(n), '1'}))
	}
	for n := range 20000 {
		words = append(words, strconv.Itoa(n), strconv.Itoa(2147483647+10000-n))
	}
	for _, w := range words {
		want, wantOK := number(w)
		if got, ok := Number(w); got != want || ok != wantOK {
			t.Fatalf("Number(%q) = %d, %v, not %d, %v", w, got, ok, want, wantOK)
		}
	}
}

func TestP3_1Join(t *testing.T) {
	cases := []struct {
		first string
		l     []int
		want  string
	}{
		{"", nil, ""},
		{"w", nil, "w"},
		{"w", []int{}, "w"},
		{"", []int{0}, " 0"},
		{"", []int{5, 6}, " 5 6"},
		{"r", []int{3, 17}, "r 3 17"},
		{"r", []int{0, -1, 10, -10}, "r 0 -1 10 -10"},
		{"a b ", []int{1}, "a b  1"},
		{"\n\xff", []int{1}, "\n\xff 1"},
		{"x", []int{2147483647, 2147483648, -2147483648}, "x 2147483647 2147483648 -2147483648"},
		{"x", []int{math.MaxInt64, math.MinInt64}, "x 9223372036854775807 -9223372036854775808"},
	}
	for _, c := range cases {
		if got := Join(c.first, c.l...); got != c.want {
			t.Errorf("Join(%q, %v) = %q, not %q", c.first, c.l, got, c.want)
		}
	}
}

func TestP3_2Words(t *testing.T) {
	cases := []struct {
		line  string
		many  int
		first string
		l     []int
		ok    bool
	}{
		{"r 3 17", 2, "r", []int{3, 17}, true},
		{"r 3 17", 1, "", nil, false},
		{"r 3 17", 3, "", nil, false},
		{"r 3 17", 0, "", nil, false},
		{"r 3 17", -1, "", nil, false},
		{"r 3 17", math.MinInt, "", nil, false},
		{"r 3 17", math.MaxInt, "", nil, false},
		{"r", 0, "r", nil, true},
		{"r", -1, "", nil, false},
		{"r", 1, "", nil, false},
		{"", 0, "", nil, true},
		{"", 1, "", nil, false},
		{"", -1, "", nil, false},
		{" ", 0, "", nil, false},
		{" ", 1, "", nil, false},
		{" 5", 1, "", []int{5}, true},
		{" 5 6", 2, "", []int{5, 6}, true},
		{"5 6", 1, "5", []int{6}, true},
		{"r ", 0, "", nil, false},
		{"r ", 1, "", nil, false},
		{"r  1", 1, "", nil, false},
		{"r  1", 2, "", nil, false},
		{"r 1 ", 1, "", nil, false},
		{"r 1 ", 2, "", nil, false},
		{"r x 1", 2, "", nil, false},
		{"r 1 x", 2, "", nil, false},
		{"r 01", 1, "", nil, false},
		{"r -1", 1, "", nil, false},
		{"r 1\n", 1, "", nil, false},
		{"r\t1", 1, "", nil, false},
		{"r\t1", 0, "r\t1", nil, true},
		{"a\nb\xff 1", 1, "a\nb\xff", []int{1}, true},
		{"r 2147483647 0", 2, "r", []int{2147483647, 0}, true},
		{"r 2147483648 0", 2, "", nil, false},
	}
	for _, c := range cases {
		first, l, ok := Words(c.line, c.many)
		if first != c.first || !slices.Equal(l, c.l) || ok != c.ok {
			t.Errorf("Words(%q, %d) = %q, %v, %v, not %q, %v, %v", c.line, c.many, first, l, ok, c.first, c.l, c.ok)
		}
	}
}

func TestP3_2WordsOfAllSmallLines(t *testing.T) {
	for _, line := range texts("x 01\n-", 6) {
		all := pieces(line, ' ')
		right := true
		var numbers []int
		for _, w := range all[1:] {
			n, ok := number(w)
			right = right && ok
			numbers = append(numbers, n)
		}
		for many := -1; many <= 7; many++ {
			wantFirst, want, wantOK := "", []int(nil), false
			if right && many == len(numbers) {
				wantFirst, want, wantOK = all[0], numbers, true
			}
			first, l, ok := Words(line, many)
			if first != wantFirst || !slices.Equal(l, want) || ok != wantOK {
				t.Fatalf("Words(%q, %d) = %q, %v, %v, not %q, %v, %v", line, many, first, l, ok, wantFirst, want, wantOK)
			}
		}
	}
}

// What was joined is taken apart again.
func TestP3_2WordsOfJoin(t *testing.T) {
	for _, want := range [][]int{nil, {0}, {Most}, {3, 17}, {0, 0, 0}, slices.Repeat([]int{7, Most, 0}, 500)} {
		first, l, ok := Words(Join("txn", want...), len(want))
		if first != "txn" || !slices.Equal(l, want) || !ok {
			t.Errorf("Words of Join of %v = %q, %v, %v", want, first, l, ok)
		}
	}
}

func TestP3_2Lines(t *testing.T) {
	cases := []struct {
		text string
		want []string
		ok   bool
	}{
		{"", nil, true},
		{"\n", []string{""}, true},
		{"\n\n", []string{"", ""}, true},
		{"a", nil, false},
		{" ", nil, false},
		{"a\n", []string{"a"}, true},
		{"a\nb", []string{"a"}, false},
		{"a\nb\n", []string{"a", "b"}, true},
		{"a\n\nb\n", []string{"a", "", "b"}, true},
		{"\na", []string{""}, false},
		{"a\r\nb\r", []string{"a\r"}, false},
		{"a b\n \n", []string{"a b", " "}, true},
		{"\xff\x00\n\u2028\n\v\f\n", []string{"\xff\x00", "\u2028", "\v\f"}, true},
	}
	for _, c := range cases {
		if got, ok := Lines(c.text); !slices.Equal(got, c.want) || ok != c.ok {
			t.Errorf("Lines(%q) = %q, %v, not %q, %v", c.text, got, ok, c.want, c.ok)
		}
	}
	for _, text := range texts("a \n\r", 6) {
		all := pieces(text, '\n')
		want, behind := all[:len(all)-1], all[len(all)-1]
		if got, ok := Lines(text); !slices.Equal(got, want) || ok != (behind == "") {
			t.Fatalf("Lines(%q) = %q, %v", text, got, ok)
		}
	}
}

// P2, rule 4: what is handed in stays as it was, its spare room too, and no two answers share memory.
func TestP2AnswersAreApart(t *testing.T) {
	room := []int{3, -17, 77, 78}
	if got := Join("r", room[:2]...); got != "r 3 -17" {
		t.Errorf("Join = %q", got)
	}
	if !slices.Equal(room, []int{3, -17, 77, 78}) {
		t.Error("Join changed what was handed in", room)
	}
	_, numbers, _ := Words("r 1 2", 2)
	_, again, _ := Words("r 1 2", 2)
	numbers = append(numbers, 9)
	numbers[0], numbers[1] = 50, 51
	if _, third, _ := Words("r 1 2", 2); !slices.Equal(again, []int{1, 2}) || !slices.Equal(third, []int{1, 2}) {
		t.Error("two lists of numbers share memory", again, third)
	}
	lines, _ := Lines("a\nb\nc")
	more, _ := Lines("a\nb\nc")
	lines = append(lines, "x")
	lines[0], lines[1] = "y", "z"
	if third, _ := Lines("a\nb\nc"); !slices.Equal(more, []string{"a", "b"}) || !slices.Equal(third, []string{"a", "b"}) {
		t.Error("two lists of lines share memory", more, third)
	}
}

// P1: every call ends without a panic, at long texts and at numbers far out.
func TestP1NoPanic(t *testing.T) {
	const long = 1 << 20
	for _, text := range []string{"", " ", "\n", "0", "9", "x", "\xff", "1 ", "1\n", " 1\n"} {
		text = strings.Repeat(text, long)
		Number(text)
		Join(text, math.MinInt, math.MaxInt)
		Lines(text)
		for _, many := range []int{math.MinInt, -1, 0, 1, long - 1, long, long + 1, 1 << 40, math.MaxInt} {
			Words(text, many)
		}
	}
	many := slices.Repeat([]int{math.MinInt}, long)
	if got := Join("", many...); len(got) != 21*long {
		t.Error("Join of many", len(got))
	}
	if first, l, ok := Words(strings.Repeat(" 1", long), long); first != "" || len(l) != long || !ok {
		t.Error("Words of many", first, len(l), ok)
	}
}
