package search

import (
	"math"
	"slices"
	"testing"

	"burgage/api"
	"burgage/axiom"
	"burgage/brute"
	"burgage/fuel"
	"burgage/order"
	"burgage/place"
	"burgage/rel"
	"burgage/sample"
)

// The bits of what is asked, by their numbers in the document.
const (
	session    = 1
	transitive = 2
	prefix     = 4
	rivalsBit  = 8
	total      = 16
	inTime     = 32
)

// asks: what each level asks, by its number, by hand.
var asks = []int{0, session, session | transitive, session | rivalsBit, session | prefix, session | transitive | rivalsBit, session | prefix | rivalsBit, session | total, inTime | transitive, inTime | prefix, inTime | prefix | rivalsBit, inTime | total}

// left: of all rows in which transactions may come, behind those that are placed, how many transactions are not in it, all together.
func left(s *place.State, n int) int {
	many := n - len(s.Row())
	for i := range n {
		if s.Try(i) {
			many += left(s, n)
			s.Undo()
		}
	}
	return many
}

// plain: the first order of all in which they may come behind those that are placed, where nothing is remembered; false: there is none.
func plain(s *place.State, n int) bool {
	for i := range n {
		if s.Try(i) {
			if plain(s, n) {
				return true
			}
			s.Undo()
		}
	}
	return s.Done()
}

// spent: holds what is decided, by Meters of all kinds, against what is to be answered; how much it takes.
func spent(t *testing.T, o *order.Orders, l api.Level, want api.Witness, accepted bool) int {
	t.Helper()
	m := fuel.New(fuel.Most)
	w, yes, e := Decide(o, l, m)
	if !sample.SameWitness(w, want) || yes != accepted || e != api.OK {
		t.Fatalf("Decide %d = %v, %v, %v, not %v, %v: %+v", l, w, yes, e, want, accepted, o)
	}
	used := m.Used()
	for _, more := range []int{0, 1, 5, 1 << 20} {
		for _, gone := range []int{0, 1, 4} {
			m := fuel.New(used + more + gone)
			for range gone {
				m.Spend()
			}
			w, yes, e := Decide(o, l, m)
			if !sample.SameWitness(w, want) || yes != accepted || e != api.OK || m.Used() != used+gone || m.Left() != more {
				t.Fatalf("Decide %d with %d more = %v, %v, %v, used %d, not %d: %+v", l, more, w, yes, e, m.Used(), used+gone, o)
			}
		}
	}
	for less := 1; less <= used; less += 1 + less/9 {
		m := fuel.New(used - less)
		w, yes, e := Decide(o, l, m)
		if !sample.None(w) || yes || e != api.ErrFuel || m.Left() != 0 || m.Used() != used-less {
			t.Fatalf("Decide %d with %d less than %d = %v, %v, %v, left %d: %+v", l, less, used, w, yes, e, m.Left(), o)
		}
	}
	return used
}

// bound: holds how much is spent against what the document tells of it.
func bound(t *testing.T, o *order.Orders, l api.Level, used int, accepted bool) {
	t.Helper()
	if all := left(place.New(o, asks[l]), o.N); used > all || used > fuel.Level(o.N) {
		t.Fatalf("P17.2, P17.3: %d is spent, not at most %d, and %d, of %d: %+v", used, all, fuel.Level(o.N), l, o)
	}
	if accepted && used < o.N || !o.Sound && used != 0 {
		t.Fatalf("P17.3: %d is spent of %d: %+v", used, l, o)
	}
}

// Mixed histories of few transactions, against all orders there are.
func TestP17OfMixed(t *testing.T) {
	m := sample.Mixed(1)
	var yes, no, bent [12]int
	for i := range 1500 {
		n := i % 6
		if i%30 == 0 {
			n = 6
		}
		o := sample.Follow(t, m.History(n, 1+m.Next(4)))
		for l := range api.Level(12) {
			want, accepted, _ := brute.Decide(o, l)
			bound(t, o, l, spent(t, o, l, want, accepted), accepted)
			if accepted {
				yes[l]++
			} else {
				no[l]++
			}
			if !slices.IsSorted(want.Order) {
				bent[l]++
			}
		}
	}
	for l := range 12 {
		if yes[l] < 100 || no[l] < 100 || bent[l] < 20 {
			t.Error("the mixed ones are too much alike", l, yes[l], no[l], bent[l])
		}
	}
}

// More transactions than layer 13 takes: against the first order in which all may come.
func TestP17OfMore(t *testing.T) {
	m := sample.Mixed(2)
	var yes, no [12]int
	for i := range 120 {
		n := 9 + i%2
		h := m.History(n, 2+m.Next(3))
		if i%3 == 0 {
			h, _, _ = m.Right(n, 2+m.Next(3))
		}
		o := sample.Follow(t, h)
		for l := range api.Level(12) {
			s := place.New(o, asks[l])
			var want api.Witness
			accepted := o.Sound && plain(s, n)
			if accepted {
				want.Order = s.Row()
				for i := range n {
					want.Sees = append(want.Sees, s.Sees(i).List())
				}
				yes[l]++
			} else {
				no[l]++
			}
			used := spent(t, o, l, want, accepted)
			if accepted && (used < n || !axiom.Accepts(o, l, want)) || used > fuel.Level(n) {
				t.Fatalf("%d is spent of %d, by which is accepted %v: %+v", used, l, want, o)
			}
		}
	}
	for l := range 12 {
		if yes[l] < 5 || no[l] < 5 {
			t.Error("the mixed ones are too much alike", l, yes[l], no[l])
		}
	}
}

// two: 1 reads of 0, and is over ahead of it.
const two = "txn 0 1 4\nw 0 1\ntxn 1 2 3\nr 0 1\n"

// skew: both read what is there at first of the key to which the other one writes.
const skew = "txn 0 1 3\nr 1 0\nw 0 1\ntxn 1 2 4\nr 0 0\nw 1 2\n"

// lost: both read what is there at first, and overwrite it.
const lost = "txn 0 1 3\nr 0 0\nw 0 1\ntxn 1 2 4\nr 0 0\nw 0 2\n"

// fork: 2 and 3 see one of 0 and 1 each.
const fork = "txn 0 1 5\nw 0 1\ntxn 1 2 6\nw 1 2\ntxn 2 3 7\nr 0 1\nr 1 0\ntxn 3 4 8\nr 0 0\nr 1 2\n"

// back: 0 reads of 2, 2 of 1, of as many sessions.
const back = "txn 0 1 5\nr 0 3\ntxn 1 2 6\nw 1 2\ntxn 2 3 7\nr 1 2\nw 0 3\n"

// old: 1 comes behind 0 in time, and overwrites what it writes; 2 comes behind both, and reads of 0.
const old = "txn 0 1 2\nw 0 1\ntxn 1 3 4\nw 0 2\ntxn 2 5 6\nr 0 1\n"

// torn: 1 reads of 0 of one key, and what is there at first of another one to which 0 writes.
const torn = "txn 0 1 3\nw 0 1\nw 1 2\ntxn 1 2 4\nr 0 1\nr 1 0\n"

// What is answered, by hand.
func TestP17_1Decide(t *testing.T) {
	cases := []struct {
		what, text string
		l          api.Level
		order      []int
		sees       [][]int
	}{
		{"read of, in time", two, 11, []int{0, 1}, [][]int{nil, {0}}},
		{"skew, by snapshot", skew, 6, []int{0, 1}, [][]int{nil, nil}},
		{"skew, by serial", skew, 7, nil, nil},
		{"lost, by prefix", lost, 4, []int{0, 1}, [][]int{nil, nil}},
		{"lost, by update", lost, 3, nil, nil},
		{"fork, by parallel", fork, 5, []int{0, 1, 2, 3}, [][]int{nil, nil, {0}, {1}}},
		{"fork, by prefix", fork, 4, nil, nil},
		{"back, by causal", back, 2, []int{1, 2, 0}, [][]int{{1, 2}, nil, {1}}},
		{"back, by session-atomic", back, 1, []int{1, 2, 0}, [][]int{{2}, nil, {1}}},
		{"old, by serial", old, 7, []int{0, 2, 1}, [][]int{nil, {0, 2}, {0}}},
		{"old, by read-atomic", old, 0, []int{0, 1, 2}, [][]int{nil, nil, {0}}},
		{"old, by snapshot", old, 6, []int{0, 1, 2}, [][]int{nil, {0}, {0}}},
		{"old, by time-causal", old, 8, nil, nil},
		{"old, by strict", old, 11, nil, nil},
		{"torn, by read-atomic", torn, 0, nil, nil},
	}
	for _, c := range cases {
		o := sample.Parsed(t, c.text)
		bound(t, o, c.l, spent(t, o, c.l, api.Witness{Order: c.order, Sees: c.sees}, c.order != nil), c.order != nil)
	}
}

// The document's example: a history that isn't Sound isn't accepted, by whatever Meter; and by what is no level nothing is.
func TestP17_1Nothing(t *testing.T) {
	unsound := []string{"txn 0 1 2\nr 5 0\nw 5 9\nr 5 0\n", "txn 0 1 2\nr 5 9\nw 5 9\n", "txn 0 1 2\nw 0 1\nw 0 2\ntxn 1 3 4\nr 0 1\n"}
	for _, much := range append([]int{0, 1, 2, fuel.Most}, sample.Far()...) {
		for _, text := range unsound {
			for l := range api.Level(12) {
				m := fuel.New(much)
				if w, yes, e := Decide(sample.Parsed(t, text), l, m); !sample.None(w) || yes || e != api.OK || m.Used() != 0 {
					t.Errorf("%q: Decide %d with %d = %v, %v, %v", text, l, much, w, yes, e)
				}
			}
		}
		for _, text := range append([]string{"", two, old}, unsound...) {
			for _, l := range append([]int{12, 13, 256, 256 + 7}, sample.Far()...) {
				if w, yes, e := Decide(sample.Parsed(t, text), api.Level(l), fuel.New(max(much, 20))); !sample.None(w) || yes || e != api.OK {
					t.Errorf("%q: Decide %d = %v, %v, %v", text, l, w, yes, e)
				}
			}
		}
	}
}

// No transactions: nothing is to be done, and so nothing is too little.
func TestP17_1Empty(t *testing.T) {
	o := sample.Parsed(t, "")
	for l := range api.Level(12) {
		for _, much := range []int{math.MinInt, 0, 1, fuel.Most} {
			m := fuel.New(much)
			if w, yes, e := Decide(o, l, m); !sample.None(w) || !yes || e != api.OK || m.Used() != 0 || !axiom.Accepts(o, l, w) {
				t.Errorf("Decide %d with %d = %v, %v, %v, used %d", l, much, w, yes, e, m.Used())
			}
		}
	}
}

// One Meter is spent of by one Decide behind the other, until it runs out, and is then used up for all but those that need nothing.
func TestP17_1SharedMeter(t *testing.T) {
	o, none := sample.Parsed(t, fork), sample.Parsed(t, "")
	once := fuel.New(fuel.Most)
	Decide(o, 5, once)
	m := fuel.New(2*once.Used() + once.Used()/2)
	for k := range 5 {
		w, yes, e := Decide(o, 5, m)
		if want := k < 2; yes != want || want != (e == api.OK) || !want && e != api.ErrFuel || want == sample.None(w) {
			t.Error("Decide", k, w, yes, e)
		}
		if want := min(once.Used()*(k+1), 2*once.Used()+once.Used()/2); m.Used() != want || k >= 2 && m.Left() != 0 {
			t.Error("used", k, m.Used(), m.Left())
		}
		if _, yes, e := Decide(none, 11, m); !yes || e != api.OK {
			t.Error("of none", k, yes, e)
		}
	}
}

// lone: as Apart, but that the last one reads what may not be: of two keys to which the one ahead of it writes the one as written, the other one as it is at first.
func lone(t *testing.T, n int) *order.Orders {
	h := sample.Apart(n)
	h[n-2].Ops = append(h[n-2].Ops, sample.Write(63, n-2))
	h[n-1].Ops = append(h[n-1].Ops, sample.Read(n-2, n-2), sample.Read(63, -1))
	return sample.Follow(t, h)
}

// The edge of what is spent: where all rows of those that write are unlike, and lead nowhere, what the document tells is reached.
func TestP17_2Edge(t *testing.T) {
	// Of n - 1 that may come anywhere, and one that never may.
	rows := func(n int) int {
		sum, many := 0, 1
		for k := range n {
			sum += many * (n - k)
			many *= n - 1 - k
		}
		return sum
	}
	for n := 2; n <= 8; n++ {
		o := lone(t, n)
		for l := range api.Level(12) {
			if n == 8 && l%3 > 0 {
				continue
			}
			m := fuel.New(fuel.Level(n))
			w, yes, e := Decide(o, l, m)
			if !sample.None(w) || yes || e != api.OK || m.Used() > rows(n) {
				t.Errorf("Decide %d of %d = %v, %v, %v, used %d, not at most %d", l, n, w, yes, e, m.Used(), rows(n))
			}
			bound(t, o, l, m.Used(), false)
		}
	}
}

// Who may not come is not gone on with: where only one may, at each place, as much is spent as there are others, and no more.
func TestP17_3Chained(t *testing.T) {
	m := sample.Mixed(3)
	for n := 1; n <= 64; n += 7 {
		row := m.Row(n)
		h := sample.Chained(row)
		o := sample.Follow(t, h)
		// The last one of the row reads what is there at first of a key to which the first one writes.
		last, first := row[n-1], row[0]
		h[last].Ops = append(h[last].Ops, sample.Read(63, -1))
		h[first].Ops = append(h[first].Ops, api.Op{Write: true, Key: 63, Value: 1 << 20})
		bad := sample.Follow(t, h)
		for l := range api.Level(12) {
			vis := rel.Chain(row...)
			if asks[l]&(transitive|prefix|total) == 0 {
				vis = o.From
			}
			used := spent(t, o, l, axiom.Witness(row, vis), true)
			bound(t, o, l, used, true)
			// Of more than two the last one sees the first one through others alone.
			if n == 1 || n > 2 && asks[l]&(transitive|prefix|total) == 0 {
				continue
			}
			bound(t, bad, l, spent(t, bad, l, api.Witness{}, false), false)
		}
	}
}

// As many transactions as there may be.
func TestP17Of64(t *testing.T) {
	o := sample.Follow(t, sample.Apart(64))
	row := make([]int, 64)
	for i := range row {
		row[i] = i
	}
	for l := range api.Level(12) {
		vis := rel.Rel{}
		if asks[l]&total != 0 {
			vis = rel.Chain(row...)
		}
		if used := spent(t, o, l, axiom.Witness(row, vis), true); used < 64 || used > 64*65/2 {
			t.Error("Decide", l, used)
		}
	}
	m := sample.Mixed(4)
	accepted := 0
	for range 60 {
		n := 11 + m.Next(54)
		h, row, vis := m.Right(n, 1+m.Next(4))
		o := sample.Follow(t, h)
		kept := axiom.Kept(o, row, vis)
		for l := range api.Level(12) {
			w, yes, e := Decide(o, l, fuel.New(1<<14))
			if e == api.OK && !yes && asks[l]&kept == asks[l] {
				t.Fatalf("Decide %d, that is kept by %v: %+v", l, row, o)
			}
			// No order is less than the first one.
			if yes && (!axiom.Accepts(o, l, w) || asks[l]&kept == asks[l] && slices.Compare(w.Order, row) > 0) {
				t.Fatalf("Decide %d = %v: %+v", l, w, o)
			}
			if yes {
				accepted++
			}
		}
	}
	if accepted < 100 {
		t.Error("the mixed ones are too much alike", accepted)
	}
}

// What has failed is remembered: many that write nothing are gone through by who they are, not by all their orders.
func TestFailedOnce(t *testing.T) {
	h := sample.Apart(12)
	for i := range 10 {
		h[i].Ops = []api.Op{sample.Read(i, -1)}
	}
	h[10].Ops = append(h[10].Ops, sample.Write(63, 10))
	h[11].Ops = []api.Op{sample.Read(10, 10), sample.Read(63, -1)}
	o := sample.Follow(t, h)
	for l := range api.Level(12) {
		// Of each set of the 11 at most 12 are tried; and where it matters who came ahead of the one that writes, of each such set, too. Of all orders it would be 100 million.
		most := 12 << 11
		if asks[l]&prefix != 0 {
			most = 12 * (1<<10 + 59049)
		}
		m := fuel.New(most)
		if w, yes, e := Decide(o, l, m); !sample.None(w) || yes || e != api.OK {
			t.Errorf("Decide %d = %v, %v, %v, used %d", l, w, yes, e, m.Used())
		}
	}
}

// P2: what is handed in stays as it was, the same is answered again, and what is answered is apart.
func TestP2Apart(t *testing.T) {
	m := sample.Mixed(5)
	for range 200 {
		n := m.Next(8)
		o := sample.Follow(t, m.History(n, 1+m.Next(3)))
		was := sample.Copied(o)
		for l := range api.Level(12) {
			one, two := fuel.New(fuel.Most), fuel.New(fuel.Level(n))
			w, yes, e := Decide(o, l, one)
			kept := sample.Kept(w)
			other, again, f := Decide(o, l, two)
			if !sample.SameWitness(w, other) || yes != again || e != f || one.Used() != two.Used() {
				t.Fatal("another answer", l, w, other)
			}
			sample.Scratch(w)
			third, _, _ := Decide(was, l, one)
			if !sample.SameWitness(other, kept) || !sample.SameWitness(third, kept) {
				t.Fatal("answers share memory", kept, other, third)
			}
			for i := range other.Sees {
				_ = append(other.Sees[i], 77, 78)
				if !sample.SameWitness(other, kept) {
					t.Fatal("lists of one answer share memory", kept, other)
				}
			}
		}
		if !sample.Same(o, was) {
			t.Fatal("what was handed in is changed", o)
		}
	}
}

// P1: every call ends without a panic, at whatever levels and fuel.
func TestP1NoPanic(t *testing.T) {
	m := sample.Mixed(6)
	for _, n := range []int{0, 1, 3, 7, 9, 64} {
		for _, h := range [][]api.Txn{m.History(n, 3), sample.Apart(n), sample.Chained(m.Row(n))} {
			o := sample.Follow(t, h)
			for _, l := range append([]int{0, 1, 2, 3, 4, 5, 6, 7, 8, 9, 10, 11, 12}, sample.Far()...) {
				for _, much := range []int{math.MinInt, -1, 0, 1, 63, 1000} {
					w, yes, e := Decide(o, api.Level(l), fuel.New(much))
					if e != api.OK && e != api.ErrFuel || yes && e != api.OK || !yes && !sample.None(w) {
						t.Error("Decide", n, l, much, w, yes, e)
					}
				}
			}
		}
	}
}
