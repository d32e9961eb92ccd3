package place

import (
	"math"
	"slices"
	"testing"

	"burgage/api"
	"burgage/axiom"
	"burgage/brute"
	"burgage/least"
	"burgage/level"
	"burgage/order"
	"burgage/rel"
	"burgage/sample"
	"burgage/set"
)

// The bits of what is asked, by their numbers in the document.
const (
	session    = 1
	transitive = 2
	prefix     = 4
	rivalsBit  = 8
	total      = 16
	inTime     = 32
)

// The model: who is placed, and whom each sees, told one by one as the document tells it.

// told is transactions in an order, and what each of them sees.
type told struct {
	o    *order.Orders
	asks int
	row  []int
	sees map[int][]int
}

// must: whether a stands to b by Base.
func (s *told) must(a, b int) bool {
	return s.o.From.Has(a, b) || s.asks&session != 0 && s.o.Session.Has(a, b) || s.asks&inTime != 0 && s.o.Time.Has(a, b)
}

// may: whom one would see that comes next; false: it may not come.
func (s *told) may(i int) ([]int, bool) {
	if i < 0 || i >= s.o.N || slices.Contains(s.row, i) {
		return nil, false
	}
	var seen []int
	for a := range s.o.N {
		if s.must(a, i) && !slices.Contains(s.row, a) {
			return nil, false
		}
	}
	for many := -1; many != len(seen); {
		many = len(seen)
		for _, a := range s.row {
			if !slices.Contains(seen, a) && s.sought(a, i, seen) {
				seen = append(seen, a)
			}
		}
	}
	for _, r := range s.o.Reads[i] {
		last := -1
		for _, a := range s.row {
			if slices.Contains(seen, a) && slices.Contains(s.o.Keys[a], r.Key) {
				last = a
			}
		}
		if last != r.From {
			return nil, false
		}
	}
	slices.Sort(seen)
	return seen, true
}

// sought: whether i would see a, where it sees some.
func (s *told) sought(a, i int, seen []int) bool {
	both := slices.ContainsFunc(s.o.Keys[a], func(key int) bool { return slices.Contains(s.o.Keys[i], key) })
	through := slices.ContainsFunc(seen, func(b int) bool { return slices.Contains(s.sees[b], a) })
	ahead := slices.ContainsFunc(seen, func(b int) bool { return slices.Index(s.row, a) < slices.Index(s.row, b) })
	return s.must(a, i) || s.asks&total != 0 || s.asks&rivalsBit != 0 && both || s.asks&transitive != 0 && through || s.asks&prefix != 0 && ahead
}

func (s *told) try(i int) bool {
	seen, ok := s.may(i)
	if ok {
		s.row = append(s.row, i)
		s.sees[i] = seen
	}
	return ok
}

func (s *told) undo() bool {
	if len(s.row) == 0 {
		return false
	}
	last := len(s.row) - 1
	delete(s.sees, s.row[last])
	s.row = s.row[:last]
	return true
}

// begun: a State, and the model of it.
func begun(o *order.Orders, asks int) (*State, *told) {
	return New(o, asks), &told{o: o, asks: level.Closed(asks), sees: map[int][]int{}}
}

// verify: holds all that a State answers, but for what changes it, against the model.
func verify(t *testing.T, s *State, w *told) {
	t.Helper()
	if s.Asks() != w.asks || !slices.Equal(s.Row(), w.row) || !slices.Equal(s.Placed().List(), slices.Sorted(slices.Values(w.row))) || s.Done() != (len(w.row) == w.o.N) {
		t.Fatalf("%d, %v, %v, %v, not %d, %v: %+v", s.Asks(), s.Row(), s.Placed().List(), s.Done(), w.asks, w.row, w.o)
	}
	for i := range w.o.N + 2 {
		if got := s.Sees(i); !slices.Equal(got.List(), w.sees[i]) {
			t.Fatalf("%d sees %v, not %v: %v, asks %d, %+v", i, got.List(), w.sees[i], w.row, w.asks, w.o)
		}
	}
	for _, i := range sample.Far() {
		if s.Sees(i) != 0 {
			t.Fatal("it sees somebody", i)
		}
	}
}

// What is tried and undone, by the way, of mixed histories, few transactions and many.
func TestP14OfMixed(t *testing.T) {
	m := sample.Mixed(1)
	var came, not, undone, done [64]int
	for i := range 6000 {
		n := m.Next(8)
		if i%50 == 0 {
			n = 20 + m.Next(45)
		}
		o, asks := sample.Follow(t, m.History(n, 1+m.Next(4))), m.Next(64)
		s, w := begun(o, asks+64*(m.Next(5)-2))
		verify(t, s, w)
		for range 4*n + 6 {
			if m.Next(8) == 0 {
				want := w.undo()
				if s.Undo() != want {
					t.Fatal("Undo", w)
				}
				undone[asks]++
				verify(t, s, w)
				continue
			}
			next := m.Next(n+3) - 1
			want := w.try(next)
			if got := s.Try(next); got != want {
				t.Fatalf("Try %d = %v: %v, asks %d, %+v", next, got, w.row, asks, o)
			}
			if want {
				came[asks]++
			} else {
				not[asks]++
			}
			if s.Done() {
				done[asks]++
			}
			verify(t, s, w)
		}
	}
	for asks := range 64 {
		if came[asks] < 50 || not[asks] < 50 || undone[asks] < 10 || done[asks] < 5 {
			t.Error("the mixed ones are too much alike", asks, came[asks], not[asks], undone[asks], done[asks])
		}
	}
}

// whole: puts a row into a State, one behind the other; false: one may not come.
func whole(s *State, row []int) bool {
	for _, i := range row {
		if !s.Try(i) {
			return false
		}
	}
	return s.Done()
}

// All may come in each order by which there is anything that may be seen that keeps what is asked, and in no other one: what they see is the least, and keeps it.
func TestP14_3AllMayCome(t *testing.T) {
	m := sample.Mixed(2)
	var yes, no [64]int
	for i := range 300 {
		n := 1 + i%4
		o := sample.Follow(t, m.History(n, 1+m.Next(3)))
		for _, row := range sample.Rows(n) {
			var kept []int
			for _, vis := range sample.Forms(row) {
				if axiom.Right(o, row, vis) {
					kept = append(kept, axiom.Kept(o, row, vis))
				}
			}
			for asks := range 64 {
				s := New(o, asks)
				want := slices.ContainsFunc(kept, func(k int) bool { return k&asks == asks })
				if !o.Sound && !want {
					continue
				}
				if got := whole(s, row); got != want {
					t.Fatalf("%v may come: %v, asks %d, %+v", row, got, asks, o)
				}
				if !want {
					no[asks]++
					continue
				}
				yes[asks]++
				isLeast(t, o, s, row, asks)
			}
		}
	}
	for asks := range 64 {
		if yes[asks] < 100 || no[asks] < 100 {
			t.Error("the mixed ones are too much alike", asks, yes[asks], no[asks])
		}
	}
}

// isLeast: holds what is seen, where all are placed, against the least that must be seen, and against what is kept by it.
func isLeast(t *testing.T, o *order.Orders, s *State, row []int, asks int) {
	t.Helper()
	vis := least.Of(o, asks, row...)
	var seen rel.Rel
	for i := range o.N {
		if s.Sees(i) != least.Sees(vis, i) || s.Sees(i) != least.Sees(least.Of(o, s.Asks(), row...), i) {
			t.Fatalf("%d sees %v: %v, asks %d, %+v", i, s.Sees(i).List(), row, asks, o)
		}
		for _, a := range s.Sees(i).List() {
			seen.Add(a, i)
		}
	}
	if !axiom.Right(o, row, seen) || asks&^axiom.Kept(o, row, seen) != 0 || s.Asks()&^axiom.Kept(o, row, seen) != 0 {
		t.Fatalf("it isn't kept: %v, asks %d, %+v", row, asks, o)
	}
}

// Likewise of levels, by orders of more transactions.
func TestP14_3Levels(t *testing.T) {
	m := sample.Mixed(3)
	yes, no := 0, 0
	for i := range 40 {
		o := sample.Follow(t, m.History(5+i%2, 1+m.Next(4)))
		if !o.Sound {
			continue
		}
		for _, row := range sample.Rows(o.N) {
			l := api.Level(m.Next(level.Many))
			s := New(o, level.Asks(l))
			_, want := brute.In(o, l, row...)
			if got := whole(s, row); got != want {
				t.Fatalf("%v may come: %v, level %d, %+v", row, got, l, o)
			}
			if want {
				yes++
				isLeast(t, o, s, row, level.Asks(l))
			} else {
				no++
			}
		}
	}
	if yes < 200 || no < 2000 {
		t.Error("the mixed ones are too much alike", yes, no)
	}
}

func TestP14_1Asks(t *testing.T) {
	o := sample.Follow(t, sample.Apart(1))
	for asks, want := range map[int]int{0: 0, session: session, transitive: transitive, prefix: prefix | transitive, rivalsBit: rivalsBit, total: total | prefix | rivalsBit | transitive, inTime: inTime | session, 63: 63, 64: 0, -1: 63, 64 + prefix: prefix | transitive} {
		if got := New(o, asks).Asks(); got != want {
			t.Errorf("Asks of %d = %d, not %d", asks, got, want)
		}
	}
	for asks := -64; asks < 128; asks++ {
		if got := New(o, asks).Asks(); got != level.Closed(asks) {
			t.Errorf("Asks of %d = %d", asks, got)
		}
	}
	for _, asks := range sample.Far() {
		if got := New(o, asks).Asks(); got != level.Closed(asks) {
			t.Errorf("Asks of %d = %d", asks, got)
		}
	}
}

// At both ends: no transaction at all, and 64 of them.
func TestP14_1Edges(t *testing.T) {
	s, w := begun(sample.Follow(t, nil), 63)
	verify(t, s, w)
	if !s.Done() || s.Undo() || s.Try(0) || s.Try(-1) || len(s.Row()) != 0 {
		t.Error("no transaction")
	}
	m := sample.Mixed(4)
	for _, asks := range []int{0, transitive, prefix, rivalsBit, total, 63 - inTime} {
		row := m.Row(64)
		s, w := begun(sample.Follow(t, sample.Chained(row)), asks)
		for k, i := range row {
			if k < 63 && s.Try(row[63]) || s.Done() || !s.Try(i) || !w.try(i) {
				t.Fatal("Try", k, i)
			}
			if k%9 == 0 {
				verify(t, s, w)
			}
		}
		verify(t, s, w)
		if s.Placed() != math.MaxUint64 || !s.Done() || s.Try(0) || s.Try(63) || s.Try(64) {
			t.Error("Done", asks)
		}
		for range 64 {
			if !s.Undo() || !w.undo() {
				t.Fatal("Undo", asks)
			}
			if len(w.row)%9 == 0 {
				verify(t, s, w)
			}
		}
		if s.Undo() || s.Placed() != 0 || !s.Try(row[0]) {
			t.Error("Undo", asks)
		}
	}
}

// The document's words, one by one: what each that is tried answers.
func TestP14_2Try(t *testing.T) {
	type step struct {
		i    int
		want bool
	}
	// 1 comes behind 0 in time, of another session, and 2 behind 1 in its session; 3 reads of 1, and is at once with all.
	base := "txn 0 1 2\nw 0 1\ntxn 1 3 4\nw 1 2\ntxn 1 5 30\nw 2 3\ntxn 2 0 31\nr 1 2\n"
	// 0 and 1 write to one key, 2 overwrites what 1 writes, of which 3 reads; 4 reads what is there at first.
	keys := "txn 0 1 20\nw 0 1\ntxn 1 2 21\nw 0 2\ntxn 2 3 22\nw 0 3\ntxn 3 4 23\nr 0 2\ntxn 4 5 24\nr 0 0\n"
	// 2 reads of 1, that reads of 0, and 2 reads what is there at first of a key of 0; 3 writes to it.
	long := "txn 0 1 20\nw 0 1\nw 1 2\ntxn 1 2 21\nr 0 1\nw 2 3\ntxn 2 3 22\nr 2 3\nr 1 0\ntxn 3 4 23\nw 1 4\n"
	// 1 reads what is there at first of the key that 0 overwrites too: both write to it.
	both := "txn 0 1 20\nw 0 1\ntxn 1 2 21\nr 0 0\nw 0 2\n"
	cases := []struct {
		what, text string
		asks       int
		steps      []step
	}{
		{"no such transaction", both, 0, []step{{-1, false}, {2, false}, {63, false}, {64, false}}},
		{"who is placed", both, 0, []step{{0, true}, {0, false}, {1, true}, {0, false}, {1, false}}},
		{"nothing is asked", base, 0, []step{{3, false}, {2, true}, {1, true}, {0, true}, {3, true}}},
		{"the session", base, session, []step{{3, false}, {2, false}, {1, true}, {3, true}, {2, true}, {0, true}}},
		{"the time", base, inTime, []step{{1, false}, {2, false}, {3, false}, {0, true}, {2, false}, {1, true}, {2, true}, {3, true}}},
		{"the last one is read of", keys, 0, []step{{3, false}, {1, true}, {4, true}, {2, true}, {3, true}, {0, true}}},
		{"the last one is read of, by Total", keys, total, []step{{4, true}, {0, true}, {3, false}, {1, true}, {3, true}, {2, true}}},
		{"another one is the last one, by Total", keys, total, []step{{1, true}, {2, true}, {3, false}, {4, false}, {0, true}, {3, false}}},
		{"another one comes later, and isn't seen", keys, prefix, []step{{1, true}, {2, true}, {3, true}, {4, true}}},
		{"another one comes ahead, and is seen", keys, prefix, []step{{0, true}, {1, true}, {3, true}, {2, true}}},
		{"what is seen through another one isn't there yet", long, 0, []step{{0, true}, {1, true}, {2, true}, {3, true}}},
		{"what is seen through another one, by Transitive", long, transitive, []step{{0, true}, {1, true}, {2, false}, {3, true}, {2, false}}},
		{"what comes ahead of another one, by Prefix", long, prefix, []step{{3, true}, {0, true}, {1, true}, {2, false}}},
		{"what writes to the same key", both, rivalsBit, []step{{0, true}, {1, false}}},
		{"what writes to the same key, and comes behind", both, rivalsBit, []step{{1, true}, {0, true}}},
		{"what writes to the same key, and nothing is asked", both, prefix | session, []step{{0, true}, {1, true}}},
	}
	for _, c := range cases {
		s, w := begun(sample.Parsed(t, c.text), c.asks)
		for k, x := range c.steps {
			if got := s.Try(x.i); got != x.want || w.try(x.i) != x.want {
				t.Errorf("%s: %d: Try %d = %v", c.what, k, x.i, got)
			}
			verify(t, s, w)
		}
	}
}

// Whom each sees that is placed, by what is asked.
func TestP14_3Sees(t *testing.T) {
	// 0, 1 and 2 read of the one ahead of them each, 3 writes to a key of 0, 4 has nothing to do with them.
	text := "txn 0 1 20\nw 0 1\nw 7 9\ntxn 1 2 21\nr 0 1\nw 1 2\ntxn 2 3 22\nr 1 2\nw 2 3\ntxn 3 4 23\nw 7 4\ntxn 4 5 24\nw 8 5\n"
	row := []int{4, 0, 1, 3, 2}
	cases := []struct {
		asks int
		want [5]set.Set
	}{
		{0, [5]set.Set{0, set.Of(0), set.Of(1), 0, 0}},
		{transitive, [5]set.Set{0, set.Of(0), set.Of(0, 1), 0, 0}},
		{rivalsBit, [5]set.Set{0, set.Of(0), set.Of(1), set.Of(0), 0}},
		{rivalsBit | transitive, [5]set.Set{0, set.Of(0), set.Of(0, 1), set.Of(0), 0}},
		{prefix, [5]set.Set{0, set.Of(0, 4), set.Of(0, 1, 4), 0, 0}},
		{prefix | rivalsBit, [5]set.Set{0, set.Of(0, 4), set.Of(0, 1, 4), set.Of(0, 4), 0}},
		{total, [5]set.Set{set.Of(4), set.Of(0, 4), set.Of(0, 1, 3, 4), set.Of(0, 1, 4), 0}},
	}
	for _, c := range cases {
		s := New(sample.Parsed(t, text), c.asks)
		for k, i := range row {
			if s.Sees(i) != 0 || !s.Try(i) {
				t.Error("Try", c.asks, i)
			}
			for _, a := range row[:k+1] {
				if s.Sees(a) != c.want[a] {
					t.Errorf("asks %d: %d sees %v, not %v", c.asks, a, s.Sees(a).List(), c.want[a].List())
				}
			}
		}
		for k := range row {
			if last := row[len(row)-1-k]; !s.Undo() || s.Sees(last) != 0 || s.Placed().Has(last) {
				t.Error("Undo", c.asks, last)
			}
		}
	}
}

// Whether the history is Sound is of no matter to who may come.
func TestP14_2NotSound(t *testing.T) {
	for _, text := range []string{"txn 0 1 2\nr 5 0\nw 5 9\nr 5 0\ntxn 1 3 4\nr 5 9\n", "txn 0 1 2\nw 0 1\nw 0 2\ntxn 1 3 4\nr 0 1\n"} {
		o := sample.Parsed(t, text)
		s := New(o, 63)
		if o.Sound || s.Try(1) || !s.Try(0) || !s.Try(1) || !s.Done() {
			t.Errorf("%q: %+v", text, o)
		}
	}
}

// P2: what is handed in stays as it was; what is answered is apart; two States of the same Orders are apart; what is refused leaves no trace.
func TestP2Apart(t *testing.T) {
	m := sample.Mixed(5)
	for range 300 {
		n := 1 + m.Next(6)
		o, asks := sample.Follow(t, m.History(n, 2)), m.Next(64)
		was := sample.Copied(o)
		s, w := begun(o, asks)
		other, v := begun(o, asks)
		for range 5 * n {
			i, j := m.Next(n), m.Next(n)
			if s.Try(i) != w.try(i) || other.Try(j) != v.try(j) {
				t.Fatal("Try", i, j, w, v)
			}
			if m.Next(4) == 0 && s.Undo() != w.undo() {
				t.Fatal("Undo", w)
			}
			row := s.Row()
			_ = append(row, 9, 9)
			for k := range row {
				row[k] = 9
			}
			verify(t, s, w)
			verify(t, other, v)
		}
		row := s.Row()
		kept := slices.Clone(row)
		for s.Undo() {
		}
		for i := n - 1; i >= 0; i-- {
			s.Try(i)
		}
		if !slices.Equal(row, kept) || !sample.Same(o, was) {
			t.Fatal("what is answered, or handed in, is changed", row, kept, o)
		}
	}
}

// P1: every call ends without a panic, at whatever numbers, and however often.
func TestP1NoPanic(t *testing.T) {
	m := sample.Mixed(6)
	for _, n := range []int{0, 1, 3, 64} {
		o := sample.Follow(t, m.History(n, 3))
		for _, asks := range append([]int{0, 1, 62, 63}, sample.Far()...) {
			s := New(o, asks)
			for range 200 {
				for _, i := range append([]int{0, 1, 2, 3, 62, 63, m.Next(64)}, sample.Far()...) {
					s.Try(i)
					s.Sees(i)
				}
				s.Done()
				s.Placed()
				if m.Next(9) == 0 {
					s.Undo()
				}
			}
			for range 300 {
				s.Undo()
				s.Row()
			}
		}
	}
}
