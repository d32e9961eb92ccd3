package brute

import (
	"math"
	"slices"
	"testing"

	"burgage/api"
	"burgage/axiom"
	"burgage/least"
	"burgage/order"
	"burgage/rel"
	"burgage/sample"
)

// The bits of what is asked, by their numbers in the document.
const (
	session    = 1
	transitive = 2
	prefix     = 4
	rivalsBit  = 8
	total      = 16
	inTime     = 32
)

// asks: what each level asks, by its number, by hand.
var asks = []int{0, session, session | transitive, session | rivalsBit, session | prefix, session | transitive | rivalsBit, session | prefix | rivalsBit, session | total, inTime | transitive, inTime | prefix, inTime | prefix | rivalsBit, inTime | total}

// The model: all that may be seen is gone through, in all orders.

// answer is what is seen, at least, by which a level is kept in an order, and whether it is.
type answer struct {
	vis rel.Rel
	ok  bool
}

// least12: what In is to answer of each level, in one order: what is in all that may be seen.
func least12(o *order.Orders, row []int) [12]answer {
	var all [12]answer
	for _, vis := range sample.Forms(row) {
		if !o.Sound || !axiom.Right(o, row, vis) {
			continue
		}
		kept := axiom.Kept(o, row, vis)
		for l := range all {
			if asks[l]&kept != asks[l] {
				continue
			}
			if !all[l].ok {
				all[l] = answer{vis, true}
			}
			for a := range vis {
				all[l].vis[a] &= vis[a]
			}
		}
	}
	return all
}

// sees: of each of n transactions those that it sees, rising.
func sees(n int, vis rel.Rel) [][]int {
	all := make([][]int, n)
	for a := range 64 {
		for i := range n {
			if vis[a]>>i&1 == 1 {
				all[i] = append(all[i], a)
			}
		}
	}
	return all
}

// sameWitness: whether a witness is of that order, and of what is seen.
func sameWitness(w api.Witness, row []int, vis rel.Rel) bool {
	return slices.Equal(w.Order, row) && slices.EqualFunc(w.Sees, sees(len(row), vis), slices.Equal[[]int])
}

// empty: whether a witness is a zero one.
func empty(w api.Witness) bool { return len(w.Order) == 0 && len(w.Sees) == 0 }

// counted: how many of the histories are accepted by each level, by more than one order, and by a first one that doesn't rise.
type counted struct{ accepted, refused, more, bent [12]int }

// verify: holds all that is answered of a history of few transactions against the model.
func verify(t *testing.T, o *order.Orders, c *counted) {
	t.Helper()
	var first [12][]int
	var at [12]rel.Rel
	var many [12]int
	for _, row := range sample.Rows(o.N) {
		want := least12(o, row)
		for l := range want {
			vis, ok := In(o, api.Level(l), row...)
			if ok != want[l].ok || vis != want[l].vis {
				t.Fatalf("In(%d, %v) = %v, %v, not %v: %+v", l, row, vis[:4], ok, want[l].vis[:4], o)
			}
			if ok && many[l] == 0 {
				first[l], at[l] = row, vis
			}
			if ok {
				many[l]++
			}
		}
	}
	for l := range 12 {
		w, accepted, ok := Decide(o, api.Level(l))
		if !ok || accepted != (many[l] > 0) || !sameWitness(w, first[l], at[l]) && accepted || !empty(w) && !accepted {
			t.Fatalf("Decide %d = %v, %v, %v, not %v, %v: %+v", l, w, accepted, ok, first[l], at[l][:4], o)
		}
		if accepted && !axiom.Accepts(o, api.Level(l), w) {
			t.Fatalf("Decide %d = %v, that isn't accepted: %+v", l, w, o)
		}
		if got := Count(o, api.Level(l)); got != many[l] {
			t.Fatalf("Count %d = %d, not %d: %+v", l, got, many[l], o)
		}
		c.add(l, many[l], first[l])
	}
}

func (c *counted) add(l, many int, first []int) {
	if many == 0 {
		c.refused[l]++
	} else {
		c.accepted[l]++
	}
	if many > 1 {
		c.more[l]++
	}
	if !slices.IsSorted(first) {
		c.bent[l]++
	}
}

func (c *counted) atLeast(t *testing.T, least int) {
	t.Helper()
	for what, l := range map[string][12]int{"accepted": c.accepted, "refused": c.refused, "more": c.more, "bent": c.bent} {
		for level, n := range l {
			if n < least {
				t.Error("the mixed ones are too much alike:", what, level, n)
			}
		}
	}
}

// All that may be seen, in all orders, of mixed histories of few transactions.
func TestP13OfFew(t *testing.T) {
	m, c := sample.Mixed(1), &counted{}
	for i := range 900 {
		n := i % 4
		if i%5 == 0 {
			n = 4
		}
		verify(t, sample.Follow(t, m.History(n, 1+m.Next(3))), c)
	}
	c.atLeast(t, 5)
}

// Of more transactions each order is held against layer 12, at what is seen at least.
func TestP13OfMore(t *testing.T) {
	m := sample.Mixed(2)
	for i := range 60 {
		o := sample.Follow(t, m.History(5+i%2, 1+m.Next(4)))
		for l := range api.Level(12) {
			var first []int
			var at rel.Rel
			many := 0
			for _, row := range sample.Rows(o.N) {
				vis := least.Of(o, asks[l], row...)
				if !axiom.Holds(o, l, row, vis) {
					continue
				}
				if many++; many == 1 {
					first, at = row, vis
				}
			}
			w, accepted, ok := Decide(o, l)
			if !ok || accepted != (many > 0) || accepted && !sameWitness(w, first, at) || !accepted && !empty(w) {
				t.Fatalf("Decide %d = %v, %v, %v, not %v: %+v", l, w, accepted, ok, first, o)
			}
			if got := Count(o, l); got != many {
				t.Fatalf("Count %d = %d, not %d: %+v", l, got, many, o)
			}
		}
	}
}

// two: 1 reads of 0, and is over ahead of it.
const two = "txn 0 1 4\nw 0 1\ntxn 1 2 3\nr 0 1\n"

// skew: both read what is there at first of the key to which the other one writes.
const skew = "txn 0 1 3\nr 1 0\nw 0 1\ntxn 1 2 4\nr 0 0\nw 1 2\n"

// lost: both read what is there at first, and overwrite it.
const lost = "txn 0 1 3\nr 0 0\nw 0 1\ntxn 1 2 4\nr 0 0\nw 0 2\n"

// fork: 2 and 3 see one of 0 and 1 each.
const fork = "txn 0 1 5\nw 0 1\ntxn 1 2 6\nw 1 2\ntxn 2 3 7\nr 0 1\nr 1 0\ntxn 3 4 8\nr 0 0\nr 1 2\n"

// back: 0 reads of 2, 2 of 1, of as many sessions.
const back = "txn 0 1 5\nr 0 3\ntxn 1 2 6\nw 1 2\ntxn 2 3 7\nr 1 2\nw 0 3\n"

// old: 1 comes behind 0 in time, and overwrites what it writes; 2 comes behind both, and reads of 0.
const old = "txn 0 1 2\nw 0 1\ntxn 1 3 4\nw 0 2\ntxn 2 5 6\nr 0 1\n"

func TestP13_1In(t *testing.T) {
	cases := []struct {
		what, text string
		l          api.Level
		row        []int
		want       rel.Rel
		ok         bool
	}{
		{"who is read of comes ahead", two, 7, []int{0, 1}, sample.Pairs([2]int{0, 1}), true},
		{"who is read of comes behind", two, 7, []int{1, 0}, rel.Rel{}, false},
		{"who is read of comes behind, and nothing is asked", two, 0, []int{1, 0}, rel.Rel{}, false},
		{"both see nobody", skew, 6, []int{1, 0}, rel.Rel{}, true},
		{"both are to see all", skew, 7, []int{1, 0}, rel.Rel{}, false},
		{"rivals needn't see each other", lost, 4, []int{0, 1}, rel.Rel{}, true},
		{"rivals must see each other", lost, 3, []int{0, 1}, rel.Rel{}, false},
		{"what isn't seen isn't ahead", fork, 4, []int{0, 2, 1, 3}, rel.Rel{}, false},
		{"each sees one", fork, 5, []int{1, 3, 0, 2}, sample.Pairs([2]int{0, 2}, [2]int{1, 3}), true},
		{"what is seen through another one", back, 2, []int{1, 2, 0}, rel.Chain(1, 2, 0), true},
		{"what is seen alone", back, 1, []int{1, 2, 0}, sample.Pairs([2]int{2, 0}, [2]int{1, 2}), true},
		{"what is old is read", old, 7, []int{1, 0, 2}, rel.Chain(1, 0, 2), true},
		{"what is old is read, of what must be seen", old, 7, []int{0, 1, 2}, rel.Rel{}, false},
		{"what is old is read, of what needn't be seen", old, 6, []int{0, 1, 2}, sample.Pairs([2]int{0, 1}, [2]int{0, 2}), true},
		{"what is old is read, and nothing is asked", old, 0, []int{0, 1, 2}, sample.Pairs([2]int{0, 2}), true},
		{"what is old is read, in time", old, 8, []int{0, 1, 2}, rel.Rel{}, false},
		{"what is old comes behind, in time", old, 8, []int{1, 0, 2}, rel.Rel{}, false},
	}
	for _, c := range cases {
		if vis, ok := In(sample.Parsed(t, c.text), c.l, c.row...); vis != c.want || ok != c.ok {
			t.Errorf("%s: In = %v, %v, not %v, %v", c.what, vis[:4], ok, c.want[:4], c.ok)
		}
	}
}

// No row of all transactions, and no level: nothing may be seen.
func TestP13_1NotIn(t *testing.T) {
	o := sample.Follow(t, sample.Apart(3))
	wrong := [][]int{nil, {}, {0}, {0, 1}, {1, 2}, {0, 0, 1}, {0, 1, 1}, {2, 2, 2}, {0, 1, 2, 2}, {0, 1, 2, 3}, {1, 2, 3}, {0, 1, 3}, {0, 1, -1}, {-1, 0, 1, 2}, {0, 1, 2, 64}, {0, 1, 64}, {0, 1, 66}, {0, 1, 1<<32 + 2}}
	for l := range api.Level(12) {
		for _, row := range wrong {
			if vis, ok := In(o, l, row...); ok || vis != (rel.Rel{}) {
				t.Errorf("In(%d, %v) = %v, %v", l, row, vis[:4], ok)
			}
		}
		for _, n := range sample.Far() {
			for i := range 3 {
				row := []int{0, 1, 2}
				row[i] = n
				if _, ok := In(o, l, row...); ok {
					t.Errorf("In(%d, %v)", l, row)
				}
			}
		}
		if _, ok := In(o, l, 2, 0, 1); !ok {
			t.Errorf("not In %d", l)
		}
	}
	for _, l := range append([]int{12, 13, 256, 256 + 11}, sample.Far()...) {
		for _, o := range []*order.Orders{o, sample.Parsed(t, two)} {
			if vis, ok := In(o, api.Level(l), []int{0, 1, 2}[:o.N]...); ok || vis != (rel.Rel{}) {
				t.Errorf("In %d = %v, %v", l, vis[:4], ok)
			}
			if w, accepted, ok := Decide(o, api.Level(l)); !empty(w) || accepted || !ok {
				t.Errorf("Decide %d = %v, %v, %v", l, w, accepted, ok)
			}
			if n := Count(o, api.Level(l)); n != 0 {
				t.Errorf("Count %d = %d", l, n)
			}
		}
	}
}

// A history that isn't Sound keeps no level, in no order.
func TestP13NotSound(t *testing.T) {
	for _, text := range []string{"txn 0 1 2\nr 5 0\nw 5 9\nr 5 0\n", "txn 0 1 2\nr 5 9\nw 5 9\n", "txn 0 1 2\nw 0 1\nw 0 2\ntxn 1 3 4\nr 0 1\n"} {
		o := sample.Parsed(t, text)
		if o.Sound {
			t.Fatal("it is sound", text)
		}
		for l := range api.Level(12) {
			if vis, ok := In(o, l, []int{0, 1}[:o.N]...); ok || vis != (rel.Rel{}) {
				t.Errorf("%q: In %d", text, l)
			}
			if w, accepted, ok := Decide(o, l); !empty(w) || accepted || !ok || Count(o, l) != 0 {
				t.Errorf("%q: Decide %d = %v, %v, %v", text, l, w, accepted, ok)
			}
		}
		verify(t, o, &counted{})
	}
}

// In takes as many transactions as there may be.
func TestP13_1Of64(t *testing.T) {
	m := sample.Mixed(3)
	for n := 7; n <= 64; n += 19 {
		row := m.Row(n)
		o := sample.Follow(t, sample.Chained(row))
		for l := range api.Level(12) {
			want := rel.Chain(row...)
			if asks[l]&(transitive|prefix|total) == 0 {
				want = o.From
			}
			if vis, ok := In(o, l, row...); !ok || vis != want {
				t.Errorf("In %d of %d = %v, %v", l, n, vis, ok)
			}
			other := slices.Clone(row)
			slices.Reverse(other)
			if _, ok := In(o, l, other...); ok {
				t.Errorf("In %d of %d, backward", l, n)
			}
			if _, ok := In(o, l, row[:n-1]...); ok {
				t.Errorf("In %d of %d, but for one", l, n)
			}
		}
	}
}

func TestP13_2Decide(t *testing.T) {
	cases := []struct {
		what, text string
		l          api.Level
		row        []int
		vis        rel.Rel
		many       int
	}{
		{"read of, in time", two, 11, []int{0, 1}, sample.Pairs([2]int{0, 1}), 1},
		{"skew, by snapshot", skew, 6, []int{0, 1}, rel.Rel{}, 2},
		{"skew, by serial", skew, 7, nil, rel.Rel{}, 0},
		{"lost, by prefix", lost, 4, []int{0, 1}, rel.Rel{}, 2},
		{"lost, by update", lost, 3, nil, rel.Rel{}, 0},
		{"fork, by parallel", fork, 5, []int{0, 1, 2, 3}, sample.Pairs([2]int{0, 2}, [2]int{1, 3}), 6},
		{"fork, by prefix", fork, 4, nil, rel.Rel{}, 0},
		{"back", back, 2, []int{1, 2, 0}, rel.Chain(1, 2, 0), 1},
		{"old, by serial", old, 7, []int{0, 2, 1}, rel.Chain(0, 2, 1), 2},
		{"old, by read-atomic", old, 0, []int{0, 1, 2}, sample.Pairs([2]int{0, 2}), 3},
		{"old, by prefix", old, 4, []int{0, 1, 2}, sample.Pairs([2]int{0, 2}), 3},
		{"old, by strict", old, 11, nil, rel.Rel{}, 0},
	}
	for _, c := range cases {
		o := sample.Parsed(t, c.text)
		w, accepted, ok := Decide(o, c.l)
		if !ok || accepted != (c.many > 0) || accepted && !sameWitness(w, c.row, c.vis) || !accepted && !empty(w) {
			t.Errorf("%s: Decide = %v, %v, %v", c.what, w, accepted, ok)
		}
		if got := Count(o, c.l); got != c.many {
			t.Errorf("%s: Count = %d, not %d", c.what, got, c.many)
		}
	}
}

// The document's example: two that have nothing to do with each other: strict is kept by both orders. And of more of them by all there are, up to 8.
func TestP13Apart(t *testing.T) {
	want := []int{1, 1, 2, 6, 24, 120, 720, 5040, 40320}
	for n := range want {
		o := sample.Follow(t, sample.Apart(n))
		for l := range api.Level(12) {
			row := []int{0, 1, 2, 3, 4, 5, 6, 7}[:n]
			vis := rel.Rel{}
			if asks[l]&total != 0 {
				vis = rel.Chain(row...)
			}
			if w, accepted, ok := Decide(o, l); !accepted || !ok || !sameWitness(w, row, vis) {
				t.Errorf("Decide %d of %d = %v, %v, %v", l, n, w, accepted, ok)
			}
			if n == MaxTxns && l > 0 && l < 11 {
				continue
			}
			if got := Count(o, l); got != want[n] {
				t.Errorf("Count %d of %d = %d", l, n, got)
			}
		}
	}
}

// Of 8 transactions that come in one order alone, and of 9: too many, whatever the level, and the history.
func TestP13Edge(t *testing.T) {
	// More would be gone through without an end that could be waited for: so the test ends at what is wrong.
	if MaxTxns != 8 {
		t.Fatal("MaxTxns", MaxTxns)
	}
	for n := 1; n <= 10; n++ {
		row := []int{9, 8, 7, 6, 5, 4, 3, 2, 1, 0}[10-n:]
		o := sample.Follow(t, sample.Chained(row))
		w, accepted, ok := Decide(o, 7)
		if n > 8 {
			if !empty(w) || accepted || ok || Count(o, 7) != -1 {
				t.Fatalf("Decide of %d = %v, %v, %v", n, w, accepted, ok)
			}
			continue
		}
		if !accepted || !ok || !sameWitness(w, row, rel.Chain(row...)) || Count(o, 7) != 1 {
			t.Errorf("Decide of %d = %v, %v, %v", n, w, accepted, ok)
		}
	}
	for _, n := range []int{9, 10, 63, 64} {
		unsound := sample.Apart(n)
		unsound[0].Ops = append(unsound[0].Ops, api.Op{Key: 0})
		for _, h := range [][]api.Txn{sample.Apart(n), unsound} {
			o := sample.Follow(t, h)
			for _, l := range append([]int{0, 1, 5, 11, 12}, sample.Far()...) {
				w, accepted, ok := Decide(o, api.Level(l))
				if !empty(w) || accepted || ok || Count(o, api.Level(l)) != -1 {
					t.Fatalf("Decide %d of %d = %v, %v, %v", l, n, w, accepted, ok)
				}
			}
		}
	}
}

// All orders come, each once, the least first; and none any more behind one at which it is stopped.
func TestOrders(t *testing.T) {
	for n := range 8 {
		var got [][]int
		for row := range orders(n) {
			got = append(got, row)
		}
		want := sample.Rows(n)
		if !slices.EqualFunc(got, want, slices.Equal[[]int]) {
			t.Fatalf("orders of %d aren't all, in their row, or share memory: %d", n, len(got))
		}
		for stop := range min(len(want), 30) {
			many := 0
			for row := range orders(n) {
				if !slices.Equal(row, want[many]) {
					t.Errorf("order %d of %d = %v", many, n, row)
				}
				if many++; many > stop {
					break
				}
			}
			if many != stop+1 {
				t.Errorf("stopped at %d of %d: %d", stop, n, many)
			}
		}
		// Each is of its own memory, so that who keeps one, or writes into it, is left alone by the others.
		for row := range orders(n) {
			clear(row)
			_ = append(row, 9)
		}
		for i := range got {
			if !slices.Equal(got[i], want[i]) {
				t.Fatalf("orders of %d share memory", n)
			}
		}
	}
}

// P2: what is handed in stays as it was, its spare room too; what is answered is apart, and the same each time.
func TestP2Apart(t *testing.T) {
	m := sample.Mixed(4)
	for range 200 {
		n := m.Next(5)
		o := sample.Follow(t, m.History(n, 2))
		was := sample.Copied(o)
		room := append(m.Row(n), 77, 78, 79)
		row := slices.Clone(room)
		for l := range api.Level(12) {
			one, yes := In(o, l, room[:n]...)
			other, again := In(o, l, row[:n]...)
			if one != other || yes != again || Count(o, l) != Count(o, l) {
				t.Fatal("another answer", l, o)
			}
			w, _, _ := Decide(o, l)
			kept, _, _ := Decide(o, l)
			if !slices.Equal(w.Order, kept.Order) || !slices.EqualFunc(w.Sees, kept.Sees, slices.Equal[[]int]) {
				t.Fatal("another answer", l, o)
			}
			_ = append(w.Order, 50, 51)
			clear(w.Order)
			for i := range w.Sees {
				_ = append(w.Sees[i], 50, 51, 52)
				clear(w.Sees[i])
			}
			clear(w.Sees)
			if last, accepted, _ := Decide(o, l); accepted && (!axiom.Accepts(o, l, kept) || !axiom.Accepts(o, l, last)) {
				t.Fatal("answers share memory", kept, last)
			}
		}
		if !sample.Same(o, was) || !slices.Equal(room, row) {
			t.Fatal("what was handed in is changed", o, room)
		}
	}
}

// P1: every call ends without a panic, at whatever levels and rows.
func TestP1NoPanic(t *testing.T) {
	m := sample.Mixed(5)
	many := make([]int, 1<<16)
	for i := range many {
		many[i] = i%200 - 70
	}
	for _, n := range []int{0, 1, 3, 8, 9, 64} {
		o := sample.Follow(t, m.History(n, 3))
		for _, l := range append([]int{0, 1, 7, 11, 12}, sample.Far()...) {
			for _, row := range [][]int{nil, {}, {0}, {0, 0}, {2, 1, 0, 2}, {-1, 64, 0, 9}, {2, 0, 1}, sample.Far(), many, many[70:134], many[:65]} {
				In(o, api.Level(l), row...)
			}
			if n < 8 {
				Decide(o, api.Level(l))
				Count(o, api.Level(l))
			}
		}
		Decide(o, -1)
		Count(o, math.MaxInt)
	}
}
