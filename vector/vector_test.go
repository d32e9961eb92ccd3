package vector

import (
	"math"
	"slices"
	"testing"

	"burgage/api"
	"burgage/brute"
	"burgage/fuel"
	"burgage/order"
	"burgage/sample"
	"burgage/search"
	"burgage/table"
)

// judged: the Vector of a history, where there is fuel enough.
func judged(t *testing.T, o *order.Orders) Vector {
	t.Helper()
	v, e := Of(o, fuel.Most)
	if e != api.OK {
		t.Fatal("it ran out", e)
	}
	return v
}

// same: whether two Vectors are the same, with all that stands beside the Rows.
func same(a, b Vector) bool {
	for l := range a.Why {
		if a.Row[l] != b.Row[l] || !sample.SameWitness(a.Why[l], b.Why[l]) {
			return false
		}
	}
	return true
}

// costs: what layer 17 spends of the levels that accept a history, and of all.
func costs(o *order.Orders) (accepted, all int) {
	for l := range api.Level(12) {
		m := fuel.New(fuel.Most)
		_, yes, _ := search.Decide(o, l, m)
		all += m.Used()
		if yes {
			accepted += m.Used()
		}
	}
	return accepted, all
}

// needed: the least measure with which the answer is the one that is wanted; with each lesser one that is looked at there is none, with each greater one it is the same.
func needed(t *testing.T, o *order.Orders, want Vector, most int) int {
	t.Helper()
	low, high := -1, most+1
	for low+1 < high {
		much := (low + high) / 2
		v, e := Of(o, much)
		switch {
		case e == api.OK && same(v, want):
			high = much
		case e == api.ErrFuel && same(v, Vector{}):
			low = much
		default:
			t.Fatalf("Of with %d = %v, %v, not %v: %+v", much, v, e, want, o)
		}
	}
	return high
}

// verify: holds the Vector of a history against what is to be answered, and how much it takes against what layer 17 spends.
func verify(t *testing.T, o *order.Orders, want Vector) {
	t.Helper()
	if got := judged(t, o); !same(got, want) {
		t.Fatalf("Of = %v, not %v: %+v", got, want, o)
	}
	accepted, all := costs(o)
	least := needed(t, o, want, all)
	if least < accepted || least > all {
		t.Fatalf("P18.1: it takes %d, not from %d to %d: %+v", least, accepted, all, o)
	}
	for _, much := range []int{least + 1, least + 7, all + 1, fuel.All(o.N), fuel.All(o.N) + 1, fuel.Most, math.MaxInt} {
		if v, e := Of(o, much); much >= least && (e != api.OK || !same(v, want)) {
			t.Fatalf("Of with %d = %v, %v: %+v", much, v, e, o)
		}
	}
	for _, much := range []int{least - 1, least - 2, least / 2, 1, 0, -1, math.MinInt} {
		if v, e := Of(o, much); much < least && max(much, 0) < least && (e != api.ErrFuel || !same(v, Vector{})) {
			t.Fatalf("Of with %d, less than %d = %v, %v: %+v", much, least, v, e, o)
		}
	}
}

// Mixed histories of few transactions, against all orders there are.
func TestP18_1OfMixed(t *testing.T) {
	m := sample.Mixed(1)
	var rows []table.Row
	for i := range 900 {
		n := i % 6
		if i%30 == 0 {
			n = 6
		}
		o := sample.Follow(t, m.History(n, 1+m.Next(4)))
		var want Vector
		for l := range api.Level(12) {
			want.Why[l], want.Row[l], _ = brute.Decide(o, l)
		}
		verify(t, o, want)
		if got := judged(t, o); !got.Row.Closed() || !got.Right(o) {
			t.Fatalf("it isn't right: %v, %+v", got, o)
		}
		if !slices.Contains(rows, want.Row) {
			rows = append(rows, want.Row)
		}
	}
	if len(rows) < 10 {
		t.Error("the mixed ones are too much alike", len(rows))
	}
}

// yes: the Row in which some levels are true.
func yes(l ...api.Level) table.Row {
	var r table.Row
	for _, b := range l {
		r[b] = true
	}
	return r
}

// parting: histories, and by hand which levels accept them.
var parting = []struct {
	what, text string
	want       []api.Level
}{
	{"nothing", "", []api.Level{0, 1, 2, 3, 4, 5, 6, 7, 8, 9, 10, 11}},
	{"one of one session reads what is there at first, behind one that writes", "txn 0 1 2\nw 0 1\ntxn 0 3 4\nr 0 0\n", []api.Level{0}},
	{"a cause that is unseen", "txn 0 1 6\nw 0 1\ntxn 1 2 7\nr 0 1\nw 1 2\ntxn 2 3 8\nr 1 2\nr 0 0\n", []api.Level{0, 1, 3}},
	{"a long fork", "txn 0 1 5\nw 0 1\ntxn 1 2 6\nw 1 2\ntxn 2 3 7\nr 0 1\nr 1 0\ntxn 3 4 8\nr 0 0\nr 1 2\n", []api.Level{0, 1, 2, 3, 5, 8}},
	{"a lost update", "txn 0 1 3\nr 0 0\nw 0 1\ntxn 1 2 4\nr 0 0\nw 0 2\n", []api.Level{0, 1, 2, 4, 8, 9}},
	{"a write skew", "txn 0 1 3\nr 1 0\nw 0 1\ntxn 1 2 4\nr 0 0\nw 1 2\n", []api.Level{0, 1, 2, 3, 4, 5, 6, 8, 9, 10}},
	{"a stale read", "txn 0 1 2\nw 0 1\ntxn 1 3 4\nr 0 0\n", []api.Level{0, 1, 2, 3, 4, 5, 6, 7}},
	{"a torn read", "txn 0 1 3\nw 0 1\nw 1 2\ntxn 1 2 4\nr 0 1\nr 1 0\n", nil},
	{"what was overwritten is read", "txn 0 1 2\nw 0 1\nw 0 2\ntxn 1 3 4\nr 0 1\n", nil},
	{"two that have nothing to do with each other", "txn 0 1 3\nw 0 1\ntxn 1 2 4\nw 1 2\n", []api.Level{0, 1, 2, 3, 4, 5, 6, 7, 8, 9, 10, 11}},
}

func TestP18_1ByHand(t *testing.T) {
	for _, c := range parting {
		o := sample.Parsed(t, c.text)
		v := judged(t, o)
		if v.Row != yes(c.want...) || !v.Right(o) {
			t.Errorf("%s: Of = %v", c.what, v.Row)
		}
		for l, accepted := range v.Row {
			if none := len(v.Why[l].Order) == 0; none != (!accepted || o.N == 0) {
				t.Errorf("%s: Why %d = %v", c.what, l, v.Why[l])
			}
		}
		verify(t, o, v)
	}
	// The Row's calls are the Vector's.
	v := judged(t, sample.Parsed(t, parting[3].text))
	if !v.Closed() || !slices.Equal(v.Strongest(), []api.Level{5, 8}) {
		t.Error("Strongest", v.Strongest())
	}
}

// A level that implies one that is refused isn't searched for, but each other one is: what it takes is what these take.
func TestRefusedOnce(t *testing.T) {
	cases := []struct {
		at       int // of parting
		searched []api.Level
	}{
		{1, []api.Level{0, 1}},
		{2, []api.Level{0, 1, 2, 3}},
		{3, []api.Level{0, 1, 2, 3, 4, 5, 8}},
		{4, []api.Level{0, 1, 2, 3, 4, 8, 9}},
		{5, []api.Level{0, 1, 2, 3, 4, 5, 6, 7, 8, 9, 10}},
		{6, []api.Level{0, 1, 2, 3, 4, 5, 6, 7, 8}},
		{7, []api.Level{0}},
	}
	for _, c := range cases {
		o := sample.Parsed(t, parting[c.at].text)
		m := fuel.New(fuel.Most)
		for _, l := range c.searched {
			search.Decide(o, l, m)
		}
		if got := needed(t, o, judged(t, o), fuel.All(o.N)); got != m.Used() {
			t.Errorf("%s: it takes %d, not %d", parting[c.at].what, got, m.Used())
		}
	}
}

// The document's example: a history without transactions: all twelve, with whatever measure.
func TestP18_1Empty(t *testing.T) {
	for _, much := range append([]int{0, 1, fuel.Most}, sample.Far()...) {
		v, e := Of(sample.Parsed(t, ""), much)
		if e != api.OK || !same(v, Vector{Row: yes(0, 1, 2, 3, 4, 5, 6, 7, 8, 9, 10, 11)}) {
			t.Error("Of none", much, v, e)
		}
	}
}

// As many transactions as there may be, each level with a Witness of its own.
func TestP18_1Of64(t *testing.T) {
	m := sample.Mixed(2)
	for _, h := range [][]api.Txn{sample.Apart(64), sample.Chained(m.Row(64)), sample.Chained(m.Row(33)), sample.Apart(9)} {
		o := sample.Follow(t, h)
		v := judged(t, o)
		if v.Row != yes(0, 1, 2, 3, 4, 5, 6, 7, 8, 9, 10, 11) || !v.Right(o) {
			t.Error("Of", v.Row)
		}
		for l := range api.Level(12) {
			if w, _, _ := search.Decide(o, l, fuel.New(fuel.Most)); !sample.SameWitness(w, v.Why[l]) {
				t.Error("Why", l, v.Why[l])
			}
		}
		verify(t, o, v)
	}
}

// Right says no to whatever is changed of a right one.
func TestP18_2Right(t *testing.T) {
	for _, c := range parting {
		o := sample.Parsed(t, c.text)
		v := judged(t, o)
		for l, accepted := range v.Row {
			for what, w := range map[string]api.Witness{"an order": {Order: []int{0}}, "what is seen": {Sees: [][]int{{}}}, "far": {Order: []int{math.MinInt}, Sees: [][]int{{64}}}} {
				wrong := v
				wrong.Why[l] = w
				if wrong.Right(o) {
					t.Errorf("%s: level %d with %s", c.what, l, what)
				}
			}
			turned := v
			turned.Row[l] = !accepted
			// Of no transactions the Witness is the zero one, whether the level accepts or not.
			if turned.Right(o) != (o.N == 0 && turned.Row.Closed()) {
				t.Errorf("%s: level %d turned", c.what, l)
			}
			none := v
			none.Why[l] = api.Witness{}
			if none.Right(o) != (!accepted || o.N == 0) {
				t.Errorf("%s: level %d without a Witness", c.what, l)
			}
			empty := v
			empty.Why[l] = api.Witness{Order: []int{}, Sees: [][]int{}}
			if empty.Right(o) != (!accepted || o.N == 0) {
				t.Errorf("%s: level %d with empty lists", c.what, l)
			}
		}
		for _, n := range sample.Far() {
			wrong := v
			wrong.Why[0] = api.Witness{Order: []int{n}, Sees: [][]int{{n}, nil}}
			if wrong.Right(o) {
				t.Errorf("%s: with %d", c.what, n)
			}
		}
	}
}

// A Row with Witnesses of all that are true in it is right only if it is Closed: what isn't true needn't be refused by the history, but what is implied is.
func TestP18_2RightClosed(t *testing.T) {
	o := sample.Parsed(t, parting[9].text)
	all := judged(t, o)
	right := 0
	for bits := range 1 << 12 {
		var v Vector
		for l := range v.Row {
			if v.Row[l] = bits>>l&1 == 1; v.Row[l] {
				v.Why[l] = all.Why[l]
			}
		}
		if v.Right(o) != v.Row.Closed() {
			t.Fatal("Right", v.Row)
		}
		if v.Right(o) {
			right++
		}
	}
	if right < 20 || right > 200 {
		t.Error("too much is closed", right)
	}
}

// Any Witness that layer 12 accepts is right, not just the first one; of another history it isn't.
func TestP18_2RightOther(t *testing.T) {
	o := sample.Parsed(t, parting[9].text)
	v := judged(t, o)
	for l := range v.Why {
		v.Why[l] = api.Witness{Order: []int{1, 0}, Sees: [][]int{{1, 1}, nil}}
	}
	if !v.Right(o) {
		t.Error("Right, backward")
	}
	if v.Right(sample.Parsed(t, parting[6].text)) || v.Right(sample.Parsed(t, "")) || v.Right(sample.Parsed(t, parting[8].text)) {
		t.Error("Right of another history")
	}
	if !(Vector{}).Right(o) || !(Vector{}).Right(sample.Parsed(t, "")) {
		t.Error("Right of nothing")
	}
}

func TestP18_2Same(t *testing.T) {
	var all []Vector
	for _, c := range parting {
		all = append(all, judged(t, sample.Parsed(t, c.text)))
	}
	for l := range 12 {
		all = append(all, Vector{Row: yes(api.Level(l))})
	}
	for _, a := range all {
		for _, b := range all {
			if Same(a, b) != (a.Row == b.Row) {
				t.Error("Same", a.Row, b.Row)
			}
		}
	}
	a, b := all[9], all[9]
	for l := range a.Why {
		b.Why[l] = api.Witness{Order: []int{7}}
		if !Same(a, b) || !Same(b, a) {
			t.Error("Witnesses are of no matter")
		}
		c := a
		if c.Row[l] = false; Same(a, c) || Same(c, a) {
			t.Error("a level is of matter", l)
		}
	}
}

// P2: what is handed in stays as it was, the same is answered again, and what is answered is apart.
func TestP2Apart(t *testing.T) {
	m := sample.Mixed(3)
	for range 200 {
		n := m.Next(7)
		o := sample.Follow(t, m.History(n, 1+m.Next(3)))
		was := sample.Copied(o)
		v, other := judged(t, o), judged(t, o)
		kept := v
		for l := range v.Why {
			kept.Why[l] = sample.Kept(v.Why[l])
		}
		if !same(v, other) || v.Right(o) != v.Right(was) || !same(v, kept) || !Same(v, other) {
			t.Fatal("another answer", v, other)
		}
		for l := range v.Why {
			sample.Scratch(v.Why[l])
			v.Why[l] = kept.Why[l]
			if !same(v, kept) {
				t.Fatal("the Witnesses of one answer share memory", l, v, kept)
			}
		}
		if !same(other, kept) || !same(judged(t, was), kept) {
			t.Fatal("answers share memory", other, kept)
		}
		if !sample.Same(o, was) {
			t.Fatal("what was handed in is changed", o)
		}
	}
}

// P1: every call ends without a panic, at whatever fuel, and Vectors of whatever Witnesses.
func TestP1NoPanic(t *testing.T) {
	m := sample.Mixed(4)
	many := make([]int, 1<<10)
	for i := range many {
		many[i] = i%200 - 70
	}
	var odd []api.Witness
	for _, row := range [][]int{nil, {}, {0}, {1, 0}, {0, 0, 1}, sample.Far(), many, many[70:134]} {
		odd = append(odd, api.Witness{Order: row}, api.Witness{Sees: [][]int{row}}, api.Witness{Order: row, Sees: make([][]int, len(row))}, api.Witness{Order: row, Sees: [][]int{row, many, nil}})
	}
	for _, n := range []int{0, 1, 2, 7, 64} {
		for _, h := range [][]api.Txn{m.History(n, 3), sample.Apart(n), sample.Chained(m.Row(n))} {
			o := sample.Follow(t, h)
			for _, much := range append([]int{0, 1, 100, 3000}, sample.Far()[:5]...) {
				v, e := Of(o, much)
				if e != api.OK && (e != api.ErrFuel || !same(v, Vector{})) {
					t.Error("Of", n, much, v, e)
				}
				for k := range 40 {
					for l := range v.Why {
						v.Row[l], v.Why[l] = m.Next(2) == 0, odd[(k+m.Next(len(odd)))%len(odd)]
					}
					if got := v.Right(o); !Same(v, v) || got && !v.Closed() {
						t.Error("Right", v)
					}
				}
			}
		}
	}
}
