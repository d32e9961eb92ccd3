package check

import (
	"math"
	"slices"
	"strconv"
	"strings"
	"testing"

	"burgage/api"
	"burgage/brute"
	"burgage/fuel"
	"burgage/lattice"
	"burgage/order"
	"burgage/sample"
	"burgage/script"
	"burgage/table"
	"burgage/vector"
)

// stale: a read of what was overwritten ahead of its beginning.
const stale = "txn 0 1 2\nw 0 1\ntxn 1 3 4\nr 0 0\n"

// same: whether two Outcomes are the same, with all that stands in them.
func same(a, b Outcome) bool {
	return a.Kind == b.Kind && a.Line == b.Line && a.Row == b.Row && slices.EqualFunc(a.Why[:], b.Why[:], sample.SameWitness)
}

// samePlace: whether two Positions are the same.
func samePlace(a, b lattice.Position) bool {
	return slices.Equal(a.Strongest, b.Strongest) && slices.Equal(a.Weakest, b.Weakest)
}

// expect: holds Check of a text, with some muches, against one Outcome.
func expect(t *testing.T, text string, want Outcome, muches ...int) {
	t.Helper()
	for _, much := range muches {
		if got := Check(text, much); !same(got, want) {
			t.Fatalf("Check(%.60q, %d) = %v, not %v", text, much, got, want)
		}
	}
}

// wide: a text of so many transactions of as many sessions, one behind the other, of so many operations each.
func wide(txns, ops int) string {
	var b strings.Builder
	for i := range txns {
		b.WriteString("txn " + strconv.Itoa(i%64) + " " + strconv.Itoa(2*i) + " " + strconv.Itoa(2*i+1) + "\n")
		b.WriteString(strings.Repeat("r 0 0\n", ops))
	}
	return b.String()
}

// long: a text of one transaction, with so many bytes: the last line has a number with noughts ahead.
func long(bytes int) string {
	const head, foot = "txn 0 1 2\nr 0 ", "0\n"
	return head + strings.Repeat("0", bytes-len(head)-len(foot)) + foot
}

func TestP25_1Kinds(t *testing.T) {
	if Malformed != 1 || TooLarge != 2 || OutOfFuel != 3 || Judged != 4 {
		t.Error("the Kinds", Malformed, TooLarge, OutOfFuel, Judged)
	}
}

// What is no history is told with whatever measure, and nothing stands beside it.
func TestP25_1Wrong(t *testing.T) {
	cases := []struct {
		what, text string
		kind, line int
	}{
		{"an empty line", "\n", Malformed, 1},
		{"a word", "x\n", Malformed, 1},
		{"an operation of nobody", "r 0 0\ntxn 0 1 2\n", Malformed, 1},
		{"not ended", "txn 0 1 2\nr 0 0", Malformed, 2},
		{"not ended, at once", "t", Malformed, 1},
		{"a blank behind all", stale + " ", Malformed, 5},
		{"the last line", stale + "x\n", Malformed, 5},
		{"one of two that are wrong", "txn 0 1 2\nw 0 1\ntxn 1 3\nr 0 0\nr 0\n", Malformed, 3},
		{"a wrong one ahead of one that isn't ended", "txn 0 1 2\nw 64 1\nr 0 0", Malformed, 2},
		{"a write of 0", "txn 0 1 2\nr 0 0\nr 0 0\nw 0 0\n", Malformed, 4},
		{"a great number", "txn 0 1 2147483648\nr 0 0\n", Malformed, 1},
		{"a nought ahead", "txn 0 1 2\nr 0 00\n", Malformed, 2},
		{"no operation", stale + "txn 0 5 6\n", Malformed, 0},
		{"no operation at all", "txn 0 0 1\n", Malformed, 0},
		{"no time", "txn 0 1 1\nr 0 0\n", Malformed, 0},
		{"a session too many", "txn 64 1 2\nr 0 0\n", Malformed, 0},
		{"a value that nobody writes", "txn 0 1 2\nr 0 1\n", Malformed, 0},
		{"a value that is written twice", "txn 0 1 2\nw 0 1\nw 1 1\n", Malformed, 0},
		{"a stamp twice", "txn 0 1 2\nr 0 0\ntxn 1 2 3\nr 0 0\n", Malformed, 0},
		{"a session's two at once", "txn 0 1 3\nr 0 0\ntxn 0 2 4\nr 0 0\n", Malformed, 0},
		{"too many operations of one", wide(1, 65), Malformed, 0},
		{"too many transactions", wide(65, 1), TooLarge, 0},
		{"too many transactions, without operations", wide(65, 0), TooLarge, 0},
		{"too many operations", wide(33, 32), TooLarge, 0},
		{"too many operations of one transaction", wide(1, 1025), TooLarge, 0},
		{"a word behind too many transactions", wide(65, 1) + "x\n", Malformed, 131},
		{"a text just not too long", long(1 << 20), Malformed, 2},
		{"a text too long", long(1<<20 + 1), TooLarge, 0},
		{"much too long a text", strings.Repeat("\n", 1<<22), TooLarge, 0},
		{"too long, and not ended", strings.Repeat("x", 1<<20+1), TooLarge, 0},
		{"not ended, but not too long", strings.Repeat("x", 1<<20), Malformed, 1},
	}
	for _, c := range cases {
		for _, much := range append([]int{0, 1, 9, fuel.Most, math.MaxInt}, sample.Far()...) {
			if o := Check(c.text, much); !same(o, Outcome{Kind: c.kind, Line: c.line}) {
				t.Errorf("%s: Check with %d = %v", c.what, much, o)
			}
		}
	}
}

// As long as a text may be it is read.
func TestP25_1Longest(t *testing.T) {
	// 64 transactions of 16 operations, with the longest words there are, are far from too long.
	var b strings.Builder
	for i := range 64 {
		b.WriteString("txn " + strconv.Itoa(i) + " " + strconv.Itoa(2000000000+2*i) + " " + strconv.Itoa(2000000001+2*i) + "\n")
		for k := range 16 {
			b.WriteString("w 63 " + strconv.Itoa(2147483647-16*i-k) + "\n")
		}
	}
	if o := Check(b.String(), 12); !same(o, Outcome{Kind: OutOfFuel}) {
		t.Error("Check of 64 with 12", o.Kind, o.Line)
	}
	for _, text := range []string{b.String(), wide(64, 16), wide(16, 64), wide(64, 1)} {
		o := Check(text, Enough(64, 1024))
		if o.Kind != Judged || o.Line != 0 || !o.Row[11] || !o.Right(sample.Parsed(t, text)) {
			t.Error("Check of the most there may be", o.Kind, o.Line, o.Row)
		}
	}
}

// The document's example: an empty text: all twelve levels accept it.
func TestP25_1Empty(t *testing.T) {
	want := Outcome{Kind: Judged}
	for l := range want.Row {
		want.Row[l] = true
	}
	expect(t, "", want, append([]int{0, 1, fuel.Most}, sample.Far()...)...)
	if p, ok := Check("", 0).Position(); !ok || p.Text() != "strongest strict\nbeyond -\n" {
		t.Error("Position", p, ok)
	}
}

// By hand: who reads what was overwritten ahead of its beginning comes first, where time isn't asked.
func TestP25_1ByHand(t *testing.T) {
	want := Outcome{Kind: Judged}
	for l := range 8 {
		want.Row[l], want.Why[l] = true, api.Witness{Order: []int{0, 1}, Sees: [][]int{{}, {}}}
	}
	want.Why[7] = api.Witness{Order: []int{1, 0}, Sees: [][]int{{1}, {}}}
	expect(t, stale, want, 1000, fuel.All(2), fuel.Most, math.MaxInt)
	expect(t, stale, Outcome{Kind: OutOfFuel}, math.MinInt, -1, 0, 1, 13)
	// One that isn't Sound is refused by each level, without any work.
	torn := "txn 0 1 2\nw 0 1\nw 0 2\ntxn 1 3 4\nr 0 1\n"
	expect(t, torn, Outcome{Kind: Judged}, math.MinInt, 0, 1, fuel.Most)
}

// judged: what is to be answered, where there is fuel enough, by all orders.
func judged(o *order.Orders) Outcome {
	want := Outcome{Kind: Judged}
	for l := range api.Level(12) {
		want.Why[l], want.Row[l], _ = brute.Decide(o, l)
	}
	return want
}

// Mixed histories of few transactions, with muches about the least that lasts.
func TestP25_1Mixed(t *testing.T) {
	m := sample.Mixed(1)
	var rows []table.Row
	for i := range 300 {
		h := m.History(i%6, 1+m.Next(4))
		o, text := sample.Follow(t, h), script.Print(h)
		want := judged(o)
		expect(t, text, want, Enough(len(h), 9), Enough(len(h), 0)+1, fuel.Most, math.MaxInt)
		lasts := false
		for much := -1; much < 120; much++ {
			_, e := vector.Of(o, much)
			if e == api.OK {
				expect(t, text, want, much)
			} else {
				expect(t, text, Outcome{Kind: OutOfFuel}, much)
			}
			if lasts && e != api.OK {
				t.Fatal("with more it doesn't last", much)
			}
			lasts = e == api.OK
		}
		if !slices.Contains(rows, want.Row) {
			rows = append(rows, want.Row)
		}
	}
	if len(rows) < 9 {
		t.Error("the mixed ones are too much alike", len(rows))
	}
}

// A byte more, less, or another one: whatever becomes of such a text by layer 7.
func TestP25_1Changed(t *testing.T) {
	m := sample.Mixed(2)
	bytes := "\n\n 0123456789rwtxn-\x00\xff"
	var kinds [5]int
	for i := range 3000 {
		text := script.Print(m.History(1+i%4, 1+m.Next(3)))
		at := m.Next(len(text))
		b := string(bytes[m.Next(len(bytes))])
		text = []string{text[:at] + b + text[at:], text[:at] + b + text[at+1:], text[:at] + text[at+1:], text[:at]}[m.Next(4)]
		h, line, e := script.Parse(text)
		want := Outcome{Kind: Malformed, Line: line}
		if e == api.OK {
			want = judged(sample.Follow(t, h))
		}
		expect(t, text, want, fuel.Most)
		kinds[want.Kind]++
	}
	if kinds[Malformed] < 300 || kinds[Judged] < 300 {
		t.Error("the changed ones are too much alike", kinds)
	}
}

// What a vector has an Outcome has, too.
func TestP25_1Embedded(t *testing.T) {
	o := Check(stale, fuel.Most)
	var v vector.Vector = o.Vector
	if !v.Row[7] || v.Row[8] || !o.Row[7] || !o.Closed() || !slices.Equal(o.Strongest(), []api.Level{7}) || !o.Right(sample.Parsed(t, stale)) || !vector.Same(v, o.Vector) {
		t.Error("the Vector", o)
	}
}

func TestP25_2Enough(t *testing.T) {
	for _, ops := range []int{0, 1, 5, 64, 1024, 1025, 1 << 32, math.MaxInt} {
		product := 36
		for txns := range 65 {
			// Of 19 it is 4379223614717952000, just below 2^62.
			if txns < 20 {
				product *= max(txns, 1)
			} else {
				product = 1 << 62
			}
			if got := Enough(txns, ops); got != product || got != fuel.All(txns) {
				t.Errorf("Enough(%d, %d) = %d, not %d", txns, ops, got, product)
			}
		}
		for _, txns := range append([]int{65, 66, 100, 1 << 20, 1<<20 + 1}, sample.Far()...) {
			if got := Enough(txns, ops); got != 1<<62 {
				t.Errorf("Enough(%d, %d) = %d", txns, ops, got)
			}
		}
	}
	for _, ops := range []int{-1, -2, -64, math.MinInt} {
		for _, txns := range append([]int{0, 1, 3, 64, 65}, sample.Far()...) {
			if got := Enough(txns, ops); got != 1<<62 {
				t.Errorf("Enough(%d, %d) = %d", txns, ops, got)
			}
		}
	}
	if Enough(0, 0) != 36 || Enough(3, 9) != 216 || Enough(1, 0) != 36 || Enough(2, 0) != 72 || Enough(19, 0) != 4379223614717952000 {
		t.Error("Enough by hand")
	}
}

// It is enough: of whatever history of so many transactions, also of those by which much is tried.
func TestP25_2ItIsEnough(t *testing.T) {
	m := sample.Mixed(3)
	texts := []string{"", wide(64, 1), wide(9, 3)}
	for n := range 8 {
		texts = append(texts, script.Print(sample.Apart(n)), script.Print(sample.Chained(m.Row(n))), crossed(n))
	}
	for i := range 200 {
		texts = append(texts, script.Print(m.History(i%9, 1+m.Next(4))))
	}
	refused := 0
	for _, text := range texts {
		h, _, _ := script.Parse(text)
		ops := 0
		for _, x := range h {
			ops += len(x.Ops)
		}
		enough := Enough(len(h), ops)
		want := Check(text, enough)
		if want.Kind != Judged || !want.Right(sample.Parsed(t, text)) {
			t.Fatalf("Check(%q) with enough = %v", text, want)
		}
		expect(t, text, want, enough+1, enough+1000, fuel.Most, math.MaxInt)
		if !want.Row[0] {
			refused++
		}
	}
	if refused < 10 {
		t.Error("too few are refused", refused)
	}
}

// crossed: a text of so many transactions at once, each of which writes to a key of its own and reads of the one behind it, the last one of the first one: in no order may they come.
func crossed(n int) string {
	h := sample.Apart(n)
	for i := range h {
		if n > 1 {
			h[i].Ops = append(h[i].Ops, sample.Read((i+1)%n, (i+1)%n))
		}
	}
	return script.Print(h)
}

func TestP25_2Position(t *testing.T) {
	m := sample.Mixed(4)
	for i := range 200 {
		text := script.Print(m.History(i%6, 1+m.Next(4)))
		o := Check(text, fuel.Most)
		if p, ok := o.Position(); !ok || !samePlace(p, lattice.Of(o.Row)) || p.Row() != o.Row {
			t.Fatalf("Position of %q = %v, %v", text, p, ok)
		}
	}
	for _, c := range []struct {
		text string
		much int
	}{{"x\n", 9}, {"txn 0 1 2\n", 9}, {wide(65, 1), 9}, {stale, 1}} {
		if p, ok := Check(c.text, c.much).Position(); ok || !samePlace(p, lattice.Position{}) {
			t.Errorf("Position of %.60q = %v, %v", c.text, p, ok)
		}
	}
	if p, ok := Check(stale, 1000).Position(); !ok || p.Text() != "strongest serial\nbeyond time-causal\n" {
		t.Error("Position of a stale read", p, ok)
	}
}

// Of Outcomes made by hand the Kind says whether they have one, and the Row which.
func TestP25_2PositionOfOther(t *testing.T) {
	for n := range 1 << 12 {
		var o Outcome
		for l := range o.Row {
			o.Row[l] = n>>l&1 == 1
		}
		for _, kind := range append([]int{-4, 0, Malformed, TooLarge, OutOfFuel, Judged, 5, 6, 8}, sample.Far()[n%7]) {
			o.Kind, o.Line = kind, n
			p, ok := o.Position()
			want := lattice.Position{}
			if kind == 4 {
				want = lattice.Of(o.Row)
			}
			if ok != (kind == 4) || !samePlace(p, want) {
				t.Fatalf("Position of %v = %v, %v", o, p, ok)
			}
		}
	}
}

// P2: what was answered stays as it is, whatever is done to another answer; the same is answered again.
func TestP2Apart(t *testing.T) {
	m := sample.Mixed(5)
	for i := range 200 {
		text := script.Print(m.History(i%6, 1+m.Next(3)))
		o, other := Check(text, fuel.Most), Check(text, fuel.Most)
		kept := o
		for l := range o.Why {
			kept.Why[l] = sample.Kept(o.Why[l])
		}
		p, _ := o.Position()
		want, _ := kept.Position()
		_, _ = append(p.Strongest, 50, 51), append(p.Weakest, 52)
		clear(p.Strongest)
		clear(p.Weakest)
		if p, _ := o.Position(); !samePlace(p, want) {
			t.Fatal("the Positions share memory", p, want)
		}
		for l := range o.Why {
			sample.Scratch(o.Why[l])
			o.Why[l] = kept.Why[l]
			if !same(o, kept) {
				t.Fatal("the Witnesses of one answer share memory", l, o, kept)
			}
		}
		if !same(other, kept) || !same(Check(text, fuel.Most), kept) {
			t.Fatal("answers share memory", other, kept)
		}
	}
}

// P1: every call ends without a panic, of any bytes, and any numbers.
func TestP1NoPanic(t *testing.T) {
	m := sample.Mixed(6)
	pieces := []string{"txn", "r", "w", " ", " ", "\n", "\n", "0", "1", "2", "3", "64", "-1", "2147483647", "99999999999999999999", "\x00", "\xff", "é", "\r", "\t", "txn 0 1 2\n", "txn 1 3 4\n", "w 0 1\n", "r 0 0\n", "r 0 1\n"}
	for i := range 4000 {
		text := ""
		for range m.Next(12) {
			text += pieces[m.Next(len(pieces))]
		}
		o := Check(text, sample.Far()[i%11])
		if p, ok := o.Position(); ok != (o.Kind == Judged) || !ok && !samePlace(p, lattice.Position{}) || o.Kind < Malformed || o.Kind > Judged || o.Line < 0 {
			t.Errorf("Check(%q) = %v", text, o)
		}
	}
	for _, n := range sample.Far() {
		for _, k := range sample.Far() {
			if Enough(n, k) != fuel.Most {
				t.Error("Enough", n, k)
			}
		}
		o := Outcome{Kind: n, Line: n}
		o.Why[3] = api.Witness{Order: []int{n}, Sees: [][]int{{n}}}
		if p, ok := o.Position(); ok || !samePlace(p, lattice.Position{}) {
			t.Error("Position", n, p, ok)
		}
	}
}
