package least

import (
	"math"
	"slices"
	"testing"

	"burgage/api"
	"burgage/level"
	"burgage/order"
	"burgage/rel"
	"burgage/sample"
	"burgage/set"
)

// The bits of what is asked, by their numbers in the document.
const (
	session    = 1
	transitive = 2
	prefix     = 4
	rivalsBit  = 8
	total      = 16
	inTime     = 32
)

// The model: what must be seen, told pair by pair as the document tells it.

// asked: whether asks has a bit.
func asked(asks, bit int) bool { return asks&bit == bit }

// base: what Base is to answer.
func base(o *order.Orders, asks int) rel.Rel {
	var r rel.Rel
	for a := range o.N {
		for b := range o.N {
			if o.From.Has(a, b) || asked(asks, session) && o.Session.Has(a, b) || asked(asks, inTime) && o.Time.Has(a, b) {
				r[a] |= 1 << b
			}
		}
	}
	return r
}

// shares: whether two write to one key.
func shares(o *order.Orders, a, b int) bool {
	return slices.ContainsFunc(o.Keys[a], func(key int) bool { return slices.Contains(o.Keys[b], key) })
}

// start: what must be seen whatever else is seen. ahead: whether one comes ahead of another one in row.
func start(o *order.Orders, asks int, row []int) rel.Rel {
	r := base(o, asks)
	for _, a := range row {
		for _, b := range row {
			if ahead(row, a, b) && (asked(asks, total) || asked(asks, rivalsBit) && shares(o, a, b)) {
				r[a] |= 1 << b
			}
		}
	}
	return r
}

func ahead(row []int, a, b int) bool { return slices.Index(row, a) < slices.Index(row, b) }

// keeps: whether a relation of the transactions of row keeps what is asked by Transitive and by Prefix.
func keeps(r rel.Rel, asks int, row []int) bool {
	for _, a := range row {
		for _, b := range row {
			for _, c := range row {
				through := asked(asks, transitive) && r.Has(a, b) || asked(asks, prefix) && ahead(row, a, b)
				if through && r.Has(b, c) && !r.Has(a, c) {
					return false
				}
			}
		}
	}
	return true
}

// narrow: what Of is to answer of few transactions: what is in all relations of them that hold what they must.
func narrow(o *order.Orders, asks int, row []int) rel.Rel {
	must := start(o, asks, row)
	in := sample.Pairs()
	for _, a := range row {
		in[a] = set.Below(len(row))
	}
	for bits := range 1 << (len(row) * len(row)) {
		var r rel.Rel
		for a := range row {
			r[a] = set.Set(bits>>(a*len(row))) & set.Below(len(row))
		}
		if must.Within(r) && keeps(r, asks, row) {
			for a := range r {
				in[a] &= r[a]
			}
		}
	}
	return in
}

// wide: what Of is to answer: pair by pair, until none is missing.
func wide(o *order.Orders, asks int, row []int) rel.Rel {
	r := start(o, asks, row)
	place := map[int]int{}
	for i, a := range row {
		place[a] = i
	}
	for {
		was := r
		for _, a := range row {
			for _, b := range row {
				if asked(asks, transitive) && r.Has(a, b) || asked(asks, prefix) && place[a] < place[b] {
					r[a] |= r[b]
				}
			}
		}
		if r == was {
			return r
		}
	}
}

// A history in which Session, Time and From are apart: by Session 0 stands to 1, by Time 0 to 1 and 3, and 2 to 3, by From 3 to 0 and 1 to 2.
const apart = "txn 0 1 2\nw 0 1\nr 1 4\ntxn 0 3 9\nw 0 2\ntxn 1 0 5\nr 0 2\ntxn 2 7 8\nw 1 4\n"

func TestP11_1Base(t *testing.T) {
	o := sample.Parsed(t, apart)
	from, ofSession, ofTime := sample.Pairs([2]int{3, 0}, [2]int{1, 2}), sample.Pairs([2]int{0, 1}), sample.Pairs([2]int{0, 1}, [2]int{0, 3}, [2]int{2, 3})
	if o.From != from || o.Session != ofSession || o.Time != ofTime {
		t.Fatal("the history isn't what it was to be")
	}
	cases := []struct {
		asks int
		want rel.Rel
	}{
		{0, from},
		{session, from.Union(ofSession)},
		{inTime, from.Union(ofTime)},
		{session | inTime, from.Union(ofTime)},
		{transitive | prefix | rivalsBit | total, from},
		{transitive | prefix | rivalsBit | total | session, from.Union(ofSession)},
		{64 | 128 | 1<<40, from},
		{63, from.Union(ofTime)},
		{-1, from.Union(ofTime)},
		{math.MinInt, from},
		{math.MinInt + 1, from.Union(ofSession)},
		{math.MaxInt, from.Union(ofTime)},
		{^session, from.Union(ofTime)},
		{^inTime, from.Union(ofSession)},
	}
	for _, c := range cases {
		if got := Base(o, c.asks); got != c.want {
			t.Errorf("Base of %d = %v, not %v", c.asks, got[:4], c.want[:4])
		}
	}
}

func TestP11_1BaseOfMixed(t *testing.T) {
	m := sample.Mixed(1)
	seen := map[rel.Rel]bool{}
	for i := range 5000 {
		o := sample.Follow(t, m.History(m.Next(7), 1+i%3))
		for asks := range 64 {
			got := Base(o, asks)
			if got != base(o, asks) || got != Base(o, asks|64) || got != Base(o, asks-64) || got != Base(o, asks+math.MinInt) {
				t.Fatalf("Base of %d = %v, not %v: %+v", asks, got[:8], base(o, asks), o)
			}
			seen[got] = true
		}
	}
	if len(seen) < 2000 {
		t.Error("the mixed histories are too much alike", len(seen))
	}
}

func TestP11_2Named(t *testing.T) {
	// 0 and 1 write to one key, 1 and 2 to another one, 3 writes nothing that others write, and nobody reads of anybody.
	writers := "txn 0 0 20\nw 0 1\ntxn 1 1 21\nw 0 2\nw 1 3\ntxn 2 2 22\nw 1 4\ntxn 3 3 23\nw 2 5\n"
	// 0 is read by 1, 1 by 2, 2 by 3.
	chain := "txn 0 0 20\nw 0 1\ntxn 1 1 21\nr 0 1\nw 1 2\ntxn 2 2 22\nr 1 2\nw 2 3\ntxn 3 3 23\nr 2 3\n"
	// 2 reads of 1.
	example := "txn 0 0 20\nr 0 0\ntxn 1 1 21\nw 1 1\ntxn 2 2 22\nr 1 1\n"
	// 0 and 1 read of each other.
	circle := "txn 0 0 20\nw 0 1\nr 1 2\ntxn 1 1 21\nw 1 2\nr 0 1\ntxn 2 2 22\nr 5 0\n"
	// 0 and 1 are rivals, 2 reads of 1, and writes what 3 overwrites: each of both rules calls for more by the other one.
	both := "txn 0 0 20\nw 0 1\ntxn 1 1 21\nw 0 2\nw 1 3\ntxn 2 2 22\nr 1 3\nw 2 4\ntxn 3 3 23\nr 2 4\ntxn 4 4 24\nr 5 0\n"
	cases := []struct {
		what, text string
		asks       int
		row        []int
		want       rel.Rel
	}{
		{"the document's example", example, prefix, []int{0, 1, 2}, sample.Pairs([2]int{0, 2}, [2]int{1, 2})},
		{"the document's example, in another order", example, prefix, []int{1, 0, 2}, sample.Pairs([2]int{1, 2})},
		{"the document's example, without Prefix", example, 63 &^ (prefix | total | session | inTime), []int{0, 1, 2}, sample.Pairs([2]int{1, 2})},
		{"what comes behind is seen", example, prefix, []int{2, 0, 1}, sample.Pairs([2]int{1, 2}, [2]int{0, 2}, [2]int{2, 2})},
		{"what comes behind is seen, by Transitive", example, transitive, []int{2, 0, 1}, sample.Pairs([2]int{1, 2})},
		{"what comes behind is seen, by Total", example, total, []int{2, 0, 1}, sample.Pairs([2]int{1, 2}, [2]int{2, 0}, [2]int{2, 1}, [2]int{0, 1})},
		{"rivals", writers, rivalsBit, []int{0, 1, 2, 3}, sample.Pairs([2]int{0, 1}, [2]int{1, 2})},
		{"rivals, the other way", writers, rivalsBit, []int{3, 2, 1, 0}, sample.Pairs([2]int{1, 0}, [2]int{2, 1})},
		{"rivals, sample.Far() from each other", writers, rivalsBit, []int{1, 3, 2, 0}, sample.Pairs([2]int{1, 2}, [2]int{1, 0})},
		{"rivals, and Transitive", writers, rivalsBit | transitive, []int{0, 1, 2, 3}, sample.Pairs([2]int{0, 1}, [2]int{1, 2}, [2]int{0, 2})},
		{"rivals, and Prefix", writers, rivalsBit | prefix, []int{3, 0, 2, 1}, sample.Pairs([2]int{0, 1}, [2]int{2, 1}, [2]int{3, 1})},
		{"nothing", writers, 0, []int{0, 1, 2, 3}, rel.Rel{}},
		{"nothing of what is asked of what is seen", writers, transitive | prefix, []int{0, 1, 2, 3}, rel.Rel{}},
		{"all", writers, total, []int{2, 0, 3, 1}, rel.Chain(2, 0, 3, 1)},
		{"a chain", chain, 0, []int{0, 1, 2, 3}, sample.Pairs([2]int{0, 1}, [2]int{1, 2}, [2]int{2, 3})},
		{"a chain, by Transitive", chain, transitive, []int{0, 1, 2, 3}, rel.Chain(0, 1, 2, 3)},
		{"a chain, by Transitive, in whatever order", chain, transitive, []int{3, 1, 0, 2}, rel.Chain(0, 1, 2, 3)},
		{"a circle", circle, 0, []int{0, 1, 2}, sample.Pairs([2]int{0, 1}, [2]int{1, 0})},
		{"a circle, by Transitive", circle, transitive, []int{0, 1, 2}, sample.Pairs([2]int{0, 1}, [2]int{1, 0}, [2]int{0, 0}, [2]int{1, 1})},
		{"a circle, by Prefix", circle, prefix, []int{0, 2, 1}, sample.Pairs([2]int{0, 1}, [2]int{1, 0}, [2]int{0, 0}, [2]int{2, 0})},
		{"two that are seen, by Prefix alone", both, prefix, []int{4, 0, 1, 2, 3}, sample.Pairs([2]int{4, 2}, [2]int{0, 2}, [2]int{1, 2}, [2]int{4, 3}, [2]int{0, 3}, [2]int{1, 3}, [2]int{2, 3})},
		{"two that are seen, by Rivals and Transitive", both, rivalsBit | transitive, []int{4, 0, 1, 2, 3}, rel.Chain(0, 1, 2, 3)},
		{"two that are seen, by Rivals and Prefix", both, rivalsBit | prefix, []int{4, 0, 1, 2, 3}, rel.Chain(0, 1, 2, 3).Union(rel.Chain(4, 1)).Union(rel.Chain(4, 2)).Union(rel.Chain(4, 3))},
	}
	for _, c := range cases {
		o := sample.Parsed(t, c.text)
		if got := Of(o, c.asks, c.row...); got != c.want {
			t.Errorf("%s: Of = %v, not %v", c.what, got[:5], c.want[:5])
		}
		// Other bits are of no matter.
		if Of(o, c.asks|64|1<<50, c.row...) != c.want || Of(o, c.asks-64, c.row...) != c.want || Of(o, c.asks+math.MinInt, c.row...) != c.want {
			t.Errorf("%s: other bits matter", c.what)
		}
	}
}

// Session and Time call for more, too.
func TestP11_2OfBase(t *testing.T) {
	o := sample.Parsed(t, apart)
	cases := []struct {
		asks int
		want rel.Rel
	}{
		{session, sample.Pairs([2]int{3, 0}, [2]int{1, 2}, [2]int{0, 1})},
		{session | transitive, sample.Pairs([2]int{3, 0}, [2]int{1, 2}, [2]int{0, 1}, [2]int{3, 1}, [2]int{3, 2}, [2]int{0, 2})},
		{session | prefix, sample.Pairs([2]int{3, 0}, [2]int{1, 2}, [2]int{0, 1}, [2]int{0, 2}, [2]int{3, 1}, [2]int{3, 2})},
		{inTime, sample.Pairs([2]int{3, 0}, [2]int{1, 2}, [2]int{0, 1}, [2]int{0, 3}, [2]int{2, 3})},
		{inTime | transitive, sample.Pairs([2]int{0, 0}, [2]int{0, 1}, [2]int{0, 2}, [2]int{0, 3}, [2]int{1, 0}, [2]int{1, 1}, [2]int{1, 2}, [2]int{1, 3}, [2]int{2, 0}, [2]int{2, 1}, [2]int{2, 2}, [2]int{2, 3}, [2]int{3, 0}, [2]int{3, 1}, [2]int{3, 2}, [2]int{3, 3})},
	}
	for _, c := range cases {
		if got := Of(o, c.asks, 3, 0, 1, 2); got != c.want {
			t.Errorf("Of %d = %v, not %v", c.asks, got[:4], c.want[:4])
		}
	}
}

// Of few transactions all relations are gone through, so that it is told which is the least one.
func TestP11_2IsLeast(t *testing.T) {
	m := sample.Mixed(7)
	for i := range 400 {
		n := i % 4
		o, row := sample.Follow(t, m.History(n, 1+m.Next(3))), m.Row(n)
		for asks := range 64 {
			want := narrow(o, asks, row)
			if got := Of(o, asks, row...); got != want {
				t.Fatalf("Of %d, %v = %v, not %v: %+v", asks, row, got[:4], want[:4], o)
			}
			if got := wide(o, asks, row); got != want {
				t.Fatalf("the model Of %d, %v = %v, not %v: %+v", asks, row, got[:4], want[:4], o)
			}
		}
	}
}

func TestP11_2OfMixed(t *testing.T) {
	m := sample.Mixed(3)
	forward, backward := 0, 0
	for i := range 1500 {
		n := m.Next(7)
		if i%50 == 0 {
			n = 40 + m.Next(25)
		}
		o, row := sample.Follow(t, m.History(n, 1+i%3)), m.Row(n)
		for range 12 {
			asks := m.Next(64)
			want := wide(o, asks, row)
			if got := Of(o, asks, row...); got != want {
				t.Fatalf("Of %d, %v = %v, not %v: %+v", asks, row, got[:8], want[:8], o)
			}
			if want.Within(rel.Chain(row...)) {
				forward++
			} else {
				backward++
			}
		}
	}
	if forward < 2000 || backward < 2000 {
		t.Error("the mixed histories are too much alike", forward, backward)
	}
}

// At both ends: no transaction at all, and 64 of them, that rise one behind the other.
func TestP11_2Edges(t *testing.T) {
	var h []api.Txn
	var row []int
	for i := range 64 {
		ops := []api.Op{{Write: true, Key: i, Value: i + 1}}
		if i > 0 {
			ops = append(ops, api.Op{Key: i - 1, Value: i})
		}
		h, row = append(h, api.Txn{Session: 63 - i, Begin: i, Commit: 100 + i, Ops: ops}), append(row, i)
	}
	none, long := sample.Follow(t, nil), sample.Follow(t, h)
	back := slices.Clone(row)
	slices.Reverse(back)
	for asks := range 64 {
		if Of(none, asks) != (rel.Rel{}) || Of(none, asks, []int{}...) != (rel.Rel{}) || Base(none, asks) != (rel.Rel{}) {
			t.Error("Of no transaction", asks)
		}
		if got := Of(long, asks, row...); (got == rel.Chain(row...)) != (asks&(transitive|prefix|total) != 0) {
			t.Error("Of 64", asks, got)
		}
		if got, want := Of(long, asks, back...), wide(long, asks, back); got != want {
			t.Error("Of 64, backward", asks, got)
		}
	}
	if Of(long, 0, row...) != long.From || Sees(long.From, 63) != set.Of(62) || Sees(Of(long, transitive, row...), 63) != set.Below(63) {
		t.Error("Of 64 that read of each other")
	}
}

// What levels ask is told by layer 9, and asks for these bits.
func TestP11_2OfLevels(t *testing.T) {
	o := sample.Parsed(t, "txn 0 0 1\nw 0 1\ntxn 0 4 7\nw 1 2\ntxn 1 5 8\nr 0 0\nr 1 2\ntxn 2 9 10\nw 0 3\n")
	for l := range api.Level(level.Many) {
		for _, row := range [][]int{{0, 1, 2, 3}, {2, 1, 3, 0}, {3, 0, 1, 2}} {
			if got, want := Of(o, level.Asks(l), row...), wide(o, level.Asks(l), row); got != want {
				t.Errorf("%s, %v: %v, not %v", level.Name(l), row, got[:4], want[:4])
			}
		}
	}
	if got := Of(o, level.Asks(level.Strict), 0, 1, 2, 3); got != rel.Chain(0, 1, 2, 3) {
		t.Error("strict", got[:4])
	}
}

func TestP11_3Sees(t *testing.T) {
	r := sample.Pairs([2]int{0, 0}, [2]int{0, 5}, [2]int{63, 5}, [2]int{7, 63}, [2]int{63, 63}, [2]int{5, 7})
	want := map[int]set.Set{0: set.Of(0), 5: set.Of(0, 63), 63: set.Of(7, 63), 7: set.Of(5)}
	for i := -70; i < 140; i++ {
		if got := Sees(r, i); got != want[i] {
			t.Errorf("Sees %d = %v, not %v", i, got.List(), want[i].List())
		}
	}
	for _, i := range sample.Far() {
		var full rel.Rel
		for a := range full {
			full[a] = math.MaxUint64
		}
		if Sees(full, i) != 0 || Sees(r, i) != 0 || Sees(full, 0) != math.MaxUint64 || Sees(full, 63) != math.MaxUint64 {
			t.Error("Sees", i)
		}
	}
	m := sample.Mixed(5)
	for range 300 {
		var r rel.Rel
		for a := range r {
			for range m.Next(9) {
				r[a] |= 1 << m.Next(64)
			}
		}
		for i := range 64 {
			var want set.Set
			for a := range 64 {
				if r[a]>>i&1 == 1 {
					want |= 1 << a
				}
			}
			if got := Sees(r, i); got != want {
				t.Fatalf("Sees %d = %v, not %v", i, got.List(), want.List())
			}
		}
	}
}

// P2: neither the Orders nor the row, its spare room too, are changed or kept; the answer is the same each time.
func TestP2Apart(t *testing.T) {
	m := sample.Mixed(9)
	for range 200 {
		n := m.Next(7)
		o, row := sample.Follow(t, m.History(n, 2)), m.Row(n)
		was, room := sample.Copied(o), append(slices.Clone(row), 77, 78, 79)
		for asks := range 64 {
			b, r := Base(o, asks), Of(o, asks, room[:n]...)
			again := r
			clear(r[:])
			clear(b[:])
			if Of(o, asks, row...) != again || Base(o, asks) != base(o, asks) {
				t.Fatal("another answer", asks, row, o)
			}
		}
		if !sample.Same(o, was) || !slices.Equal(room, append(slices.Clone(row), 77, 78, 79)) {
			t.Fatal("what was handed in is changed", o, room)
		}
	}
}

// P1: every call ends without a panic, at rows that have none, or other numbers, or many.
func TestP1NoPanic(t *testing.T) {
	m := sample.Mixed(11)
	many := make([]int, 1<<16)
	for i := range many {
		many[i] = i%200 - 70
	}
	rows := [][]int{nil, {}, {0}, {0, 0}, {2, 1, 0, 2}, {-1, 64, 0, 9}, sample.Far(), many}
	for _, n := range []int{0, 1, 3, 64} {
		o := sample.Follow(t, m.History(n, 3))
		for _, asks := range append([]int{-2, 62, 63, 64, 255}, sample.Far()...) {
			Base(o, asks)
			for _, row := range rows {
				Of(o, asks, row...)
			}
		}
		for asks := range 64 {
			for _, row := range rows[:7] {
				Of(o, asks, row...)
			}
		}
	}
}
