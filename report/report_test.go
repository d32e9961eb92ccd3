package report

import (
	"math"
	"slices"
	"strconv"
	"strings"
	"testing"

	"burgage/api"
	"burgage/axiom"
	"burgage/canon"
	"burgage/check"
	"burgage/enum"
	"burgage/fuel"
	"burgage/history"
	"burgage/level"
	"burgage/sample"
	"burgage/script"
	"burgage/separate"
)

// stale: a read of what was overwritten ahead of its beginning; staleTold: what is told of it.
const (
	stale     = "txn 0 1 2\nw 0 1\ntxn 1 3 4\nr 0 0\n"
	staleTold = "read-atomic yes 0: 1:\nsession-atomic yes 0: 1:\ncausal yes 0: 1:\nupdate yes 0: 1:\nprefix yes 0: 1:\nparallel yes 0: 1:\nsnapshot yes 0: 1:\nserial yes 1: 0:1\ntime-causal no\ntime-prefix no\ntime-snapshot no\nstrict no\nstrongest serial\nbeyond time-causal\n"
)

// wrong: what is told of what is wrong in its first line.
const wrong = "malformed 1\n"

// names: of each level, by its number.
var names = []string{"read-atomic", "session-atomic", "causal", "update", "prefix", "parallel", "snapshot", "serial", "time-causal", "time-prefix", "time-snapshot", "strict"}

// expect: holds what is told against what is to be.
func expect(t *testing.T, what, got, want string) {
	t.Helper()
	if got != want {
		t.Errorf("of %.80q: %q, not %q", what, got, want)
	}
}

// all: what is told of a history that each level accepts by one witness.
func all(witness string) string {
	return strings.Join(names, " yes"+witness+"\n") + " yes" + witness + "\nstrongest strict\nbeyond -\n"
}

func TestP26_1Named(t *testing.T) {
	for _, line := range []int{0, 1, 2, 9, 10, 131, 1<<20 + 1, 2147483647, math.MaxInt, -1, math.MinInt} {
		expect(t, "malformed", Text(check.Outcome{Kind: check.Malformed, Line: line}), "malformed "+strconv.Itoa(line)+"\n")
	}
	expect(t, "too large", Text(check.Outcome{Kind: check.TooLarge}), "too large\n")
	expect(t, "out of fuel", Text(check.Outcome{Kind: check.OutOfFuel}), "out of fuel\n")
	// Whose Line was made another number is told the same, where there is none.
	for _, line := range []int{1, -1, 7} {
		expect(t, "too large", Text(check.Outcome{Kind: check.TooLarge, Line: line}), "too large\n")
		expect(t, "out of fuel", Text(check.Outcome{Kind: check.OutOfFuel, Line: line}), "out of fuel\n")
		o := check.Check(stale, 1000)
		o.Line = line
		expect(t, stale, Text(o), staleTold)
	}
}

func TestP26_1ByHand(t *testing.T) {
	cases := []struct{ what, text, want string }{
		{"nothing", "", all("")},
		{"one", "txn 5 1 2\nr 0 0\n", all(" 0:")},
		{"two at once", "txn 0 1 3\nw 0 1\ntxn 1 2 4\nw 1 2\n", strings.Join(names[:7], " yes 0: 1:\n") + " yes 0: 1:\nserial yes 0: 1:0\ntime-causal yes 0: 1:\ntime-prefix yes 0: 1:\ntime-snapshot yes 0: 1:\nstrict yes 0: 1:0\nstrongest strict\nbeyond -\n"},
		{"three of one session", "txn 0 1 2\nr 0 0\ntxn 0 3 4\nr 0 0\ntxn 0 5 6\nr 0 0\n", "read-atomic yes 0: 1: 2:\n" + strings.SplitN(all(" 0: 1:0 2:0,1"), "\n", 2)[1]},
		{"a stale read", stale, staleTold},
		{"a torn read", "txn 0 1 3\nw 0 1\nw 1 2\ntxn 1 2 4\nr 0 1\nr 1 0\n", strings.Join(names, " no\n") + " no\nstrongest -\nbeyond read-atomic\n"},
	}
	for _, c := range cases {
		expect(t, c.what, Text(check.Check(c.text, 10000)), c.want)
		expect(t, c.what, Do("check 10000\n"+c.text), c.want)
	}
}

// told: the witness that words tell, by numbers that have one text each; false: they tell none.
func told(words []string) (api.Witness, bool) {
	w := api.Witness{Sees: make([][]int, len(words))}
	for _, word := range words {
		first, rest, ok := strings.Cut(word, ":")
		i, err := strconv.Atoi(first)
		if !ok || err != nil || i < 0 || i >= len(words) || strconv.Itoa(i) != first {
			return w, false
		}
		w.Order = append(w.Order, i)
		if rest == "" {
			continue
		}
		for _, digits := range strings.Split(rest, ",") {
			n, err := strconv.Atoi(digits)
			if err != nil || strconv.Itoa(n) != digits {
				return w, false
			}
			w.Sees[i] = append(w.Sees[i], n)
		}
	}
	return w, true
}

// holds: holds what is told of a judged history against the Outcome, and the history.
func holds(t *testing.T, h []api.Txn, o check.Outcome, text string) {
	t.Helper()
	follow := sample.Follow(t, h)
	p, _ := o.Position()
	lines := strings.SplitAfterN(text, "\n", 13)
	if len(lines) != 13 || lines[12] != p.Text() {
		t.Fatalf("%q isn't twelve lines, and the Position", text)
	}
	for l, line := range lines[:12] {
		if !o.Row[l] {
			expect(t, names[l], line, names[l]+" no\n")
			continue
		}
		words := strings.Split(strings.TrimSuffix(line, "\n"), " ")
		if words[0] != names[l] || words[1] != "yes" {
			t.Fatalf("%q isn't a yes of %s", line, names[l])
		}
		w, ok := told(words[2:])
		if !ok || !axiom.Accepts(follow, api.Level(l), w) || !sample.SameWitness(w, o.Why[l]) {
			t.Fatalf("%q doesn't tell the witness %v", line, o.Why[l])
		}
		for _, seen := range w.Sees {
			if !slices.IsSorted(seen) {
				t.Fatalf("%q: they don't rise", line)
			}
		}
	}
}

// What is told of mixed histories, up to the greatest, can be read again, and tells just why each level accepts them.
func TestP26_1Mixed(t *testing.T) {
	m := sample.Mixed(1)
	for i := range 500 {
		h := m.History(i%7, 1+m.Next(4))
		o := check.Check(script.Print(h), fuel.Most)
		holds(t, h, o, Text(o))
	}
	for _, h := range [][]api.Txn{sample.Apart(64), sample.Chained(m.Row(64)), sample.Chained(m.Row(12))} {
		o := check.Check(script.Print(h), fuel.Most)
		holds(t, h, o, Text(o))
	}
}

// ask: the line that asks to part two levels.
func ask(a, b string, n ...int) string {
	line := "part " + a + " " + b
	for _, k := range n {
		line += " " + strconv.Itoa(k)
	}
	return line
}

func TestP26_2Wrong(t *testing.T) {
	right := ask("serial", "strict", 2, 2, 2, 1, 99999)
	pieces := strings.Split(right, " ")
	// A piece more, a piece less, and another piece at each place.
	for i := range pieces {
		expect(t, right, Part(strings.Join(slices.Delete(slices.Clone(pieces), i, i+1), " ")), wrong)
		for _, other := range []string{"", "x", "Part", "parts", "part ", "serials", "seria", "Serial", "read_atomic", "-1", "+1", "01", "00", "1.", "1x", "x1", "0x1", "2147483648", "99999999999999999999", "\n", "1\n", "\t1", "é", "\xff", "\u0663"} {
			l := slices.Clone(pieces)
			l[i] = other
			line := strings.Join(l, " ")
			expect(t, line, Part(line), wrong)
			expect(t, line, Do(line+"\n"), wrong)
			line = strings.Join(slices.Insert(slices.Clone(pieces), i, other), " ")
			expect(t, line, Part(line), wrong)
		}
		// Where a name is to be a number is none, and where a number is to be a name is none.
		l := slices.Clone(pieces)
		l[i] = "7"
		if line := strings.Join(l, " "); i < 3 {
			expect(t, line, Part(line), wrong)
		}
		l[i] = "serial"
		if line := strings.Join(l, " "); i == 0 || i > 2 {
			expect(t, line, Part(line), wrong)
		}
	}
	for _, line := range []string{"", " ", "part", "part ", "check", right + " ", " " + right, right + "\n", "\n" + right, right + " 1", right + "\r", strings.ReplaceAll(right, " ", "  "), strings.ReplaceAll(right, " ", "\t"), "part serial", "part serial strict", strings.Repeat(" ", 7), strings.Repeat(" ", 1<<20), strings.Repeat(right+" ", 1000)} {
		expect(t, line, Part(line), wrong)
		expect(t, line, Do(line+"\n"), wrong)
	}
}

// The first four numbers are at most 64, the fifth one is any number.
func TestP26_2Bounds(t *testing.T) {
	for i := range 4 {
		for _, n := range []int{65, 66, 100, 128, 2147483647} {
			// Also where it is the only one that isn't 0.
			for _, others := range []int{0, 1, 64} {
				l := []int{others, others, others, others, 9}
				l[i] = n
				line := ask("serial", "strict", l...)
				expect(t, line, Part(line), wrong)
			}
		}
		for _, n := range []int{0, 1, 63, 64} {
			l := []int{0, 0, 0, 0, 9}
			l[i] = n
			line := ask("serial", "strict", l...)
			expect(t, line, Part(line), "none\n")
		}
	}
	for _, n := range []int{1, 64, 65, 9999, 2147483647} {
		line := ask("serial", "strict", 0, 0, 0, 0, n)
		expect(t, line, Part(line), "none\n")
	}
	expect(t, "no fuel", Part(ask("serial", "strict", 0, 0, 0, 0, 0)), "out of fuel\n")
	expect(t, "as much as may be", Part(ask("serial", "strict", 64, 64, 64, 64, 99)), "out of fuel\n")
}

// separated: what is to be told, by layer 24.
func separated(a, b string, n [5]int) string {
	x, _ := level.Of(a)
	y, _ := level.Of(b)
	h, found, e := separate.Find(x, y, enum.Bounds{Sessions: n[0], Txns: n[1], Ops: n[2], Keys: n[3]}, n[4])
	switch {
	case e == api.ErrFuel:
		return "out of fuel\n"
	case !found:
		return "none\n"
	}
	return script.Print(h)
}

// All pairs of levels, of bounds and measures of all kinds.
func TestP26_2All(t *testing.T) {
	kinds := map[string]int{}
	for _, n := range [][5]int{{2, 2, 2, 1, 99999}, {2, 2, 2, 1, 9}, {1, 2, 3, 1, 99999}, {1, 2, 2, 64, 2147483647}, {2, 1, 3, 2, 99999}, {64, 2, 3, 1, 150}, {2, 2, 4, 1, 99999}, {2, 2, 3, 2, 0}, {2, 64, 2, 2, 9999}} {
		for _, a := range names {
			for _, b := range names {
				line := ask(a, b, n[:]...)
				want := separated(a, b, n)
				expect(t, line, Part(line), want)
				expect(t, line, Do(line+"\n"), want)
				kinds[want[:3]]++
			}
		}
	}
	if kinds["txn"] < 100 || kinds["non"] < 100 || kinds["out"] < 100 || len(kinds) != 3 {
		t.Error("too much alike", kinds)
	}
}

// By hand: each bound is where it is told to be, and what is found parts the levels.
func TestP26_2ByHand(t *testing.T) {
	cases := []struct {
		what, a, b string
		n          [4]int
	}{
		{"own write unseen", "read-atomic", "session-atomic", [4]int{1, 2, 2, 1}},
		{"cause unseen", "session-atomic", "causal", [4]int{2, 3, 3, 1}},
		{"lost update", "session-atomic", "update", [4]int{2, 2, 4, 1}},
		{"write skew", "snapshot", "serial", [4]int{2, 2, 4, 2}},
		{"stale read", "serial", "strict", [4]int{2, 2, 2, 1}},
	}
	for _, c := range cases {
		text := Part(ask(c.a, c.b, append(c.n[:], 1<<31-1)...))
		h, line, e := script.Parse(text)
		if e != api.OK || line != 0 || !canon.Is(h) || len(h) != c.n[1] || history.Ops(h) != c.n[2] {
			t.Fatalf("%s: %q", c.what, text)
		}
		o := check.Check(text, 1<<31-1)
		a, _ := level.Of(c.a)
		b, _ := level.Of(c.b)
		if o.Kind != check.Judged || !o.Row[a] || o.Row[b] {
			t.Errorf("%s: %q doesn't part them", c.what, text)
		}
		expect(t, c.what, Part(ask(c.b, c.a, append(c.n[:], 1<<31-1)...)), backward(c.b, c.a, c.n))
		for i := range c.n {
			less := c.n
			less[i]--
			line := ask(c.a, c.b, append(less[:], 1<<31-1)...)
			expect(t, line, Part(line), "none\n")
		}
	}
}

// backward: what is told of two levels the other way round.
func backward(a, b string, n [4]int) string {
	return separated(a, b, [5]int{n[0], n[1], n[2], n[3], 1<<31 - 1})
}

func TestP26_3Part(t *testing.T) {
	right := ask("serial", "strict", 2, 2, 2, 1, 99999)
	want := Part(right)
	if !strings.HasPrefix(want, "txn ") {
		t.Fatal("nothing was found", want)
	}
	expect(t, right, Do(right+"\n"), want)
	// Not ended, more than one line, or a blank line ahead.
	for _, text := range []string{right, right + "\n\n", right + "\nx", right + "\n" + right + "\n", "\n" + right + "\n", right + "\r\n", right + " \n", " " + right + "\n", right + "\n" + stale, "part\n", "part \n", "part", "party serial strict 2 2 2 1 99999\n"} {
		expect(t, text, Do(text), wrong)
	}
}

func TestP26_3Check(t *testing.T) {
	cases := []struct{ text, want string }{
		// The document's example.
		{"check 1000\n", all("")},
		{"check 0\n", all("")},
		{"check 2147483647\n", all("")},
		{"check 1000\n" + stale, staleTold},
		{"check 1\n" + stale, "out of fuel\n"},
		{"check 0\n" + stale, "out of fuel\n"},
		{"check 9\n\n", "malformed 2\n"},
		{"check 9\nx", "malformed 2\n"},
		{"check 9\nx\n", "malformed 2\n"},
		{"check 9\n" + stale + "x\n", "malformed 6\n"},
		{"check 9\n" + stale + "r 0 0", "malformed 6\n"},
		{"check 9\n" + stale + "r 0 1\nr 0 0\ncheck 9\n", "malformed 8\n"},
		{"check 9\ncheck 9\n", "malformed 2\n"},
		{"check 9\npart serial strict 2 2 2 1 99999\n", "malformed 2\n"},
		// No line is wrong, but the history is.
		{"check 9\ntxn 0 1 2\n", "malformed 0\n"},
		{"check 9\n" + stale + "txn 1 3 4\nr 0 0\n", "malformed 0\n"},
		{"check 9\n" + strings.Repeat("x", 1<<20), "malformed 2\n"},
		{"check 9\n" + strings.Repeat("x", 1<<20+1), "too large\n"},
		{"check 9\n" + strings.Repeat("txn 0 1 2\n", 65), "too large\n"},
		{"check 9\n" + strings.Repeat("txn 0 1 2\n", 64), "malformed 0\n"},
	}
	for _, c := range cases {
		expect(t, c.text, Do(c.text), c.want)
	}
}

// Of a first line that asks for nothing, whatever is behind it.
func TestP26_3Wrong(t *testing.T) {
	for _, first := range []string{"", " ", "check", "check ", "check  9", "check 9 ", " check 9", "check 9 9", "check x", "check -1", "check +1", "check 09", "check 2147483648", "check 99999999999999999999", "Check 9", "checks 9", "chec 9", "9", "9 check", "check\t9", "check 9\r", "txn 0 1 2", "x", "part 9", "part", "check 9.", "check \u0663", "check 9\x00"} {
		for _, behind := range []string{"\n", "\n" + stale, "\ncheck 9\n", "\n\n", "\nx", "", "\n" + strings.Repeat("x", 1<<20+1)} {
			expect(t, first+behind, Do(first+behind), wrong)
		}
	}
	for _, text := range []string{"", "check 9", "check 1000", "check 0", "part serial strict 2 2 2 1 9", strings.Repeat("check 9", 1<<18), strings.Repeat(" ", 1<<20)} {
		expect(t, text, Do(text), wrong)
	}
}

// All that becomes of mixed texts is told by layer 25, with the lines one more.
func TestP26_3Mixed(t *testing.T) {
	m := sample.Mixed(2)
	var kinds [5]int
	for i := range 1500 {
		text := script.Print(m.History(i%6, 1+m.Next(3)))
		if at := m.Next(2 * (len(text) + 1)); at < len(text) {
			text = text[:at] + string("\n 01x"[m.Next(5)]) + text[at:]
		}
		for _, much := range []int{0, 7, 20, 5000} {
			o := check.Check(text, much)
			kinds[o.Kind]++
			want := Text(o)
			if o.Kind == check.Malformed && o.Line != 0 {
				want = "malformed " + strconv.Itoa(o.Line+1) + "\n"
			}
			text := "check " + strconv.Itoa(much) + "\n" + text
			expect(t, text, Do(text), want)
		}
	}
	if kinds[check.Malformed] < 300 || kinds[check.Judged] < 300 || kinds[check.OutOfFuel] < 300 {
		t.Error("too much alike", kinds)
	}
}

// P2: an Outcome stays as it was, and what was answered hangs on nothing else.
func TestP2Apart(t *testing.T) {
	m := sample.Mixed(3)
	for i := range 200 {
		text := script.Print(m.History(i%6, 1+m.Next(3)))
		o := check.Check(text, fuel.Most)
		kept, was := o, Text(o)
		for l := range o.Why {
			kept.Why[l] = sample.Kept(o.Why[l])
		}
		for range 2 {
			expect(t, text, Text(o), was)
		}
		for l := range o.Why {
			if !sample.SameWitness(o.Why[l], kept.Why[l]) {
				t.Fatal("what was handed in is changed", l)
			}
		}
	}
	line := ask("snapshot", "serial", 2, 2, 4, 2, 1<<31-1)
	want := Part(line)
	for range 3 {
		expect(t, "x", Part("x"), wrong)
		expect(t, line, Part(line), want)
		expect(t, stale, Do("check 1000\n"+stale), staleTold)
	}
}

// P1: every call ends without a panic, of any bytes, and any Outcomes.
func TestP1NoPanic(t *testing.T) {
	m := sample.Mixed(4)
	pieces := []string{"part", "check", "serial", "strict", "snapshot", " ", " ", " ", "\n", "0", "1", "2", "9", "65", "-1", "2147483648", "\x00", "\xff", "é", "\r", "part ", "check 9\n", "part serial strict", " 1 2 2 1 9", "txn 0 1 2\n", "w 0 1\n", "r 0 0\n"}
	for range 4000 {
		text := ""
		for range m.Next(10) {
			text += pieces[m.Next(len(pieces))]
		}
		for _, answer := range []string{Part(text), Do(text)} {
			if !strings.HasSuffix(answer, "\n") {
				t.Errorf("of %q: %q", text, answer)
			}
		}
	}
	for _, n := range sample.Far() {
		for _, k := range sample.Far() {
			for kind := -1; kind < 7; kind++ {
				o := check.Outcome{Kind: kind, Line: n}
				for l := range o.Row {
					o.Row[l] = l%3 > 0
					o.Why[l] = api.Witness{Order: []int{n, 0, 1, 2, k}, Sees: [][]int{{n, k}, nil}}
				}
				Text(o)
				o.Kind = k
				Text(o)
			}
		}
	}
}
