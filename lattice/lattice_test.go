package lattice

import (
	"math"
	"slices"
	"testing"

	"burgage/api"
	"burgage/fuel"
	"burgage/order"
	"burgage/sample"
	"burgage/script"
	"burgage/table"
	"burgage/vector"
)

// closed: of each level, by its number, all that follows of what it asks, by hand.
var closed = []int{0, 1, 3, 9, 7, 11, 15, 31, 35, 39, 47, 63}

// names: of each level, by its number.
var names = []string{"read-atomic", "session-atomic", "causal", "update", "prefix", "parallel", "snapshot", "serial", "time-causal", "time-prefix", "time-snapshot", "strict"}

// implies: whether a level implies another one, of those that there are.
func implies(a, b int) bool { return closed[b]&^closed[a] == 0 }

// rows: all there are.
func rows() []table.Row {
	var all []table.Row
	for n := range 1 << 12 {
		var r table.Row
		for i := range r {
			r[i] = n>>i&1 == 1
		}
		all = append(all, r)
	}
	return all
}

// yes: the Row in which some levels are true.
func yes(l ...int) table.Row {
	var r table.Row
	for _, a := range l {
		r[a] = true
	}
	return r
}

// strange: numbers that no level has.
func strange() []api.Level {
	var l []api.Level
	for _, n := range append(sample.Far(), -12, -2, 12, 13, 15, 16, 23, 256, 267, math.MaxInt-1) {
		l = append(l, api.Level(n))
	}
	return l
}

// same: whether two Positions are the same.
func same(a, b Position) bool {
	return slices.Equal(a.Strongest, b.Strongest) && slices.Equal(a.Weakest, b.Weakest)
}

// wanted: the Position of a Row, told level by level.
func wanted(r table.Row) Position {
	var p Position
	for a := range 12 {
		strongest, weakest := r[a], !r[a]
		for b := range 12 {
			if b != a && r[b] && implies(b, a) {
				strongest = false
			}
			if b != a && !r[b] && implies(a, b) {
				weakest = false
			}
		}
		if strongest {
			p.Strongest = append(p.Strongest, api.Level(a))
		}
		if weakest {
			p.Weakest = append(p.Weakest, api.Level(a))
		}
	}
	return p
}

// below: the Row of all that some levels imply.
func below(l []api.Level) table.Row {
	var r table.Row
	for _, a := range l {
		for b := range r {
			if a >= 0 && a < 12 && implies(int(a), b) {
				r[b] = true
			}
		}
	}
	return r
}

// told: how levels are told behind a word, of which there may be none.
func told(first string, l []api.Level) string {
	if len(l) == 0 {
		return first + " -\n"
	}
	for _, a := range l {
		first += " "
		if a >= 0 && a < 12 {
			first += names[a]
		}
	}
	return first + "\n"
}

func TestP19_1Of(t *testing.T) {
	for _, r := range rows() {
		if got := Of(r); !same(got, wanted(r)) {
			t.Fatalf("Of %v = %v, not %v", r, got, wanted(r))
		}
	}
}

func TestP19_1Row(t *testing.T) {
	whole := 0
	for _, r := range rows() {
		p := Of(r)
		got := p.Row()
		if got != below(p.Strongest) {
			t.Fatalf("Row of %v = %v", p, got)
		}
		// All that is true in it is implied by one of the strongest; more is, unless the Row is closed.
		if (got == r) != r.Closed() {
			t.Fatalf("Row of Of %v = %v", r, got)
		}
		if got == r {
			whole++
		}
	}
	if whole < 20 {
		t.Error("too few Rows are closed", whole)
	}
}

// A Position that isn't of any Row: in whatever order, twice, of levels that imply each other, of what is no level; whatever is the weakest.
func TestP19_1RowOfOther(t *testing.T) {
	m := sample.Mixed(1)
	all := strange()
	for a := range api.Level(12) {
		all = append(all, a, a)
	}
	for range 3000 {
		var p Position
		for range m.Next(5) {
			p.Strongest = append(p.Strongest, all[m.Next(len(all))])
		}
		for range m.Next(5) {
			p.Weakest = append(p.Weakest, all[m.Next(len(all))])
		}
		if p.Row() != below(p.Strongest) {
			t.Fatalf("Row of %v = %v", p, p.Row())
		}
		if want := told("strongest", p.Strongest) + told("beyond", p.Weakest); p.Text() != want {
			t.Fatalf("Text of %v = %q, not %q", p, p.Text(), want)
		}
	}
	if (Position{}).Row() != (table.Row{}) || (Position{Strongest: strange(), Weakest: all}).Row() != (table.Row{}) {
		t.Error("Row of no level")
	}
}

func TestP19_1Text(t *testing.T) {
	for _, r := range rows() {
		p := wanted(r)
		if got, want := Of(r).Text(), told("strongest", p.Strongest)+told("beyond", p.Weakest); got != want {
			t.Fatalf("Text of %v = %q, not %q", r, got, want)
		}
	}
}

func TestP19_1Named(t *testing.T) {
	cases := []struct {
		r    table.Row
		text string
	}{
		// The document's example: what serial accepts, and no level of time.
		{yes(0, 1, 2, 3, 4, 5, 6, 7), "strongest serial\nbeyond time-causal\n"},
		{yes(), "strongest -\nbeyond read-atomic\n"},
		{yes(0, 1, 2, 3, 4, 5, 6, 7, 8, 9, 10, 11), "strongest strict\nbeyond -\n"},
		{yes(0), "strongest read-atomic\nbeyond session-atomic\n"},
		{yes(0, 1, 2), "strongest causal\nbeyond update prefix time-causal\n"},
		{yes(0, 1, 2, 3, 5, 8), "strongest parallel time-causal\nbeyond prefix\n"},
		{yes(0, 1, 2, 4, 8, 9), "strongest time-prefix\nbeyond update\n"},
		{yes(0, 1, 2, 3, 4, 5, 6, 8, 9, 10), "strongest time-snapshot\nbeyond serial\n"},
		{yes(0, 1, 2, 3, 4, 5, 6, 7, 8, 9, 10), "strongest serial time-snapshot\nbeyond strict\n"},
		// Rows that aren't closed: what is implied needn't be true.
		{yes(11), "strongest strict\nbeyond read-atomic\n"},
		{yes(1, 2, 3, 4, 5, 6, 7, 8, 9, 10, 11), "strongest strict\nbeyond read-atomic\n"},
		{yes(0, 3, 8), "strongest update time-causal\nbeyond session-atomic\n"},
		{yes(0, 1, 6), "strongest snapshot\nbeyond causal update\n"},
	}
	for _, c := range cases {
		if got := Of(c.r).Text(); got != c.text {
			t.Errorf("Text of %v = %q, not %q", c.r, got, c.text)
		}
	}
}

// A Position made by hand: it is told as it stands; what is no level has an empty name.
func TestP19_1TextOfOther(t *testing.T) {
	cases := []struct {
		p    Position
		text string
	}{
		{Position{}, "strongest -\nbeyond -\n"},
		{Position{Strongest: []api.Level{}, Weakest: []api.Level{}}, "strongest -\nbeyond -\n"},
		{Position{Strongest: []api.Level{7, 2, 7}}, "strongest serial causal serial\nbeyond -\n"},
		{Position{Weakest: []api.Level{11, 0}}, "strongest -\nbeyond strict read-atomic\n"},
		{Position{Strongest: []api.Level{12}, Weakest: []api.Level{-1, 3}}, "strongest \nbeyond  update\n"},
	}
	for _, c := range cases {
		if got := c.p.Text(); got != c.text {
			t.Errorf("Text of %v = %q, not %q", c.p, got, c.text)
		}
	}
}

// parsed: the history of a text.
func parsed(t *testing.T, text string) []api.Txn {
	t.Helper()
	h, line, e := script.Parse(text)
	if e != api.OK {
		t.Fatal("the text is wrong", line, e)
	}
	return h
}

func TestP19_2Place(t *testing.T) {
	cases := []struct{ what, text, want string }{
		{"nothing", "", "strongest strict\nbeyond -\n"},
		{"one of one session reads what is there at first, behind one that writes", "txn 0 1 2\nw 0 1\ntxn 0 3 4\nr 0 0\n", "strongest read-atomic\nbeyond session-atomic\n"},
		{"a cause that is unseen", "txn 0 1 6\nw 0 1\ntxn 1 2 7\nr 0 1\nw 1 2\ntxn 2 3 8\nr 1 2\nr 0 0\n", "strongest update\nbeyond causal\n"},
		{"a long fork", "txn 0 1 5\nw 0 1\ntxn 1 2 6\nw 1 2\ntxn 2 3 7\nr 0 1\nr 1 0\ntxn 3 4 8\nr 0 0\nr 1 2\n", "strongest parallel time-causal\nbeyond prefix\n"},
		{"a stale read", "txn 0 1 2\nw 0 1\ntxn 1 3 4\nr 0 0\n", "strongest serial\nbeyond time-causal\n"},
		{"a torn read", "txn 0 1 3\nw 0 1\nw 1 2\ntxn 1 2 4\nr 0 1\nr 1 0\n", "strongest -\nbeyond read-atomic\n"},
	}
	for _, c := range cases {
		p, e := Place(parsed(t, c.text), fuel.Most)
		if e != api.OK || p.Text() != c.want {
			t.Errorf("%s: Place = %q, %v", c.what, p.Text(), e)
		}
	}
}

// Mixed histories, with all measures of work that matter: those of layer 18.
func TestP19_2PlaceMixed(t *testing.T) {
	m := sample.Mixed(2)
	short, enough := 0, 0
	for i := range 400 {
		h := m.History(i%6, 1+m.Next(4))
		o := sample.Follow(t, h)
		v, _ := vector.Of(o, fuel.Most)
		for _, much := range []int{math.MinInt, -1, 0, 1, o.N, 7 * o.N, 11 * o.N, 12 * o.N, 13 * o.N, 20 * o.N, fuel.All(o.N), math.MaxInt} {
			want, wrong := wanted(v.Row), api.OK
			if _, wrong = vector.Of(o, much); wrong != api.OK {
				want = Position{}
				short++
			} else {
				enough++
			}
			if p, e := Place(h, much); e != wrong || !same(p, want) {
				t.Fatalf("Place of %v, with %d = %v, %v, not %v, %v", h, much, p, e, want, wrong)
			}
		}
	}
	if short < 200 || enough < 200 {
		t.Error("the measures are too much alike", short, enough)
	}
}

// wide: so many transactions, of so many operations each.
func wide(txns, ops int) []api.Txn {
	h := sample.Apart(txns)
	for i := range h {
		h[i].Session, h[i].Begin, h[i].Commit = i, 2*i, 2*i+1
		h[i].Ops = make([]api.Op, ops)
	}
	return h
}

func TestP19_2Wrong(t *testing.T) {
	cases := []struct {
		what string
		h    []api.Txn
		want api.Errno
	}{
		{"an empty transaction", make([]api.Txn, 1), api.ErrForm},
		{"no operation", wide(2, 0), api.ErrForm},
		{"too many operations of one", wide(1, 65), api.ErrForm},
		{"a value that nobody writes", []api.Txn{{Commit: 1, Ops: []api.Op{{Value: 3}}}}, api.ErrForm},
		{"a key too large", []api.Txn{{Commit: 1, Ops: []api.Op{{Key: 64}}}}, api.ErrForm},
		{"a session below 0", []api.Txn{{Session: -1, Commit: 1, Ops: []api.Op{{}}}}, api.ErrForm},
		{"a value that is written twice", []api.Txn{{Session: 0, Begin: 0, Commit: 2, Ops: []api.Op{{Write: true, Value: 5}}}, {Session: 1, Begin: 1, Commit: 3, Ops: []api.Op{{Write: true, Key: 1, Value: 5}}}}, api.ErrForm},
		{"a stamp twice", []api.Txn{{Session: 0, Begin: 0, Commit: 2, Ops: []api.Op{{}}}, {Session: 1, Begin: 1, Commit: 2, Ops: []api.Op{{}}}}, api.ErrForm},
		{"two at once of one session", []api.Txn{{Begin: 0, Commit: 2, Ops: []api.Op{{}}}, {Begin: 1, Commit: 3, Ops: []api.Op{{}}}}, api.ErrForm},
		{"too many transactions", wide(65, 1), api.ErrLarge},
		{"too many empty transactions", make([]api.Txn, 65), api.ErrLarge},
		{"too many operations", wide(33, 32), api.ErrLarge},
	}
	for _, c := range cases {
		// What the history itself is wrong by comes ahead of the work.
		for _, much := range []int{math.MinInt, 0, 1, fuel.Most, math.MaxInt} {
			if p, e := Place(c.h, much); e != c.want || !same(p, Position{}) {
				t.Errorf("%s: Place with %d = %v, %v", c.what, much, p, e)
			}
		}
	}
	// The most there may be isn't too large.
	for _, h := range [][]api.Txn{wide(64, 16), wide(16, 64), sample.Apart(64)} {
		if p, e := Place(h, fuel.Most); e != api.OK || p.Text() != "strongest strict\nbeyond -\n" {
			t.Error("Place of as much as there may be", p, e)
		}
		if p, e := Place(h, 12); e != api.ErrFuel || !same(p, Position{}) {
			t.Error("Place with little", p, e)
		}
	}
}

// P2: what is handed in stays as it was, its spare room too; the same is answered again; and what is answered is apart.
func TestP2Apart(t *testing.T) {
	scratch := func(p Position) {
		_, _ = append(p.Strongest, 50, 51), append(p.Weakest, 52, 53)
		for i := range p.Strongest {
			p.Strongest[i] = 60
		}
		for i := range p.Weakest {
			p.Weakest[i] = 61
		}
	}
	for _, r := range rows() {
		p, other := Of(r), Of(r)
		_ = append(p.Strongest, 50, 51, 52, 53)
		if !slices.Equal(p.Weakest, wanted(r).Weakest) {
			t.Fatal("two lists of one answer share memory", p)
		}
		if scratch(p); !same(other, wanted(r)) || !same(Of(r), wanted(r)) {
			t.Fatal("answers share memory", other, Of(r))
		}
	}
	room := []api.Level{7, 99, 3, -1, 77, 78}
	p := Position{Strongest: room[:2], Weakest: room[2:4]}
	row := p.Row()
	if row[0] = false; p.Row() == row || p.Text() != "strongest serial \nbeyond update \n" || !slices.Equal(room, []api.Level{7, 99, 3, -1, 77, 78}) {
		t.Error("what was handed in is changed", room)
	}
	m := sample.Mixed(3)
	for range 200 {
		h := m.History(m.Next(6), 1+m.Next(3))
		was := script.Print(h)
		p, _ := Place(h, fuel.Most)
		want := p.Text()
		scratch(p)
		if again, e := Place(h, fuel.Most); e != api.OK || again.Text() != want || script.Print(h) != was {
			t.Fatal("another answer", again, want, h)
		}
	}
}

// P1: every call ends without a panic, at numbers far out and at many of them.
func TestP1NoPanic(t *testing.T) {
	many := slices.Repeat(strange(), 1<<8)
	p := Position{Strongest: many, Weakest: append(many, 0)}
	if p.Row() != (table.Row{}) || p.Text() != told("strongest", many)+told("beyond", append(many, 0)) {
		t.Error("of many")
	}
	for _, n := range sample.Far() {
		for _, h := range [][]api.Txn{nil, {}, make([]api.Txn, 3), {{Session: n, Begin: n, Commit: n, Ops: []api.Op{{Key: n, Value: n}}}}, {{Begin: n, Commit: n + 1, Ops: []api.Op{{Write: true, Key: n, Value: n}}}}} {
			p, e := Place(h, n)
			if _, wrong := order.Of(h); e != wrong || e != api.OK && !same(p, Position{}) {
				t.Error("Place", h, n, p, e)
			}
		}
	}
}
