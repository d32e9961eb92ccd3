package axiom

import (
	"math"
	"slices"
	"strconv"
	"testing"

	"burgage/api"
	"burgage/order"
	"burgage/rel"
	"burgage/sample"
	"burgage/set"
)

// The bits of what is asked, by their numbers in the document, and all of them.
const (
	session    = 1
	transitive = 2
	prefix     = 4
	rivalsBit  = 8
	total      = 16
	inTime     = 32
	every      = 63
)

// asks: what each level asks, by its number, by hand.
var asks = []int{0, session, session | transitive, session | rivalsBit, session | prefix, session | transitive | rivalsBit, session | prefix | rivalsBit, session | total, inTime | transitive, inTime | prefix, inTime | prefix | rivalsBit, inTime | total}

// The model: each told by its own words in the document, pair by pair.

// isRow: what Row is to answer.
func isRow(n int, row []int) bool {
	times := map[int]int{}
	for _, i := range row {
		times[i]++
	}
	for i := range n {
		if times[i] != 1 {
			return false
		}
	}
	return len(times) == n
}

// ahead: whether one comes ahead of another one, where both are in a row.
func ahead(row []int, a, b int) bool { return slices.Index(row, a) < slices.Index(row, b) }

// right: what Right is to answer.
func right(o *order.Orders, row []int, vis rel.Rel) bool {
	if !isRow(o.N, row) {
		return false
	}
	for a := range 64 {
		for b := range 64 {
			if vis[a]>>b&1 == 1 && (a >= o.N || b >= o.N || !ahead(row, a, b)) {
				return false
			}
		}
	}
	for i, l := range o.Reads {
		for _, r := range l {
			var some []int
			for _, a := range row {
				if slices.Contains(o.Keys[a], r.Key) {
					some = append(some, a)
				}
			}
			if sample.Last(vis, some, i) != r.From {
				return false
			}
		}
	}
	return true
}

// shares: whether two write to one key.
func shares(o *order.Orders, a, b int) bool {
	return slices.ContainsFunc(o.Keys[a], func(key int) bool { return slices.Contains(o.Keys[b], key) })
}

// kept: what Kept is to answer, where both are right.
func kept(o *order.Orders, row []int, vis rel.Rel) int {
	all := every
	for _, a := range row {
		for _, b := range row {
			if !vis.Has(a, b) {
				all &^= broken(o, row, vis, a, b)
			}
		}
	}
	return all
}

// broken: what isn't kept because one isn't seen by another one.
func broken(o *order.Orders, row []int, vis rel.Rel, a, b int) int {
	bits := 0
	if o.Session.Has(a, b) {
		bits |= session
	}
	if o.Time.Has(a, b) {
		bits |= inTime
	}
	if ahead(row, a, b) {
		bits |= total
		if shares(o, a, b) {
			bits |= rivalsBit
		}
	}
	for _, c := range row {
		if vis.Has(a, c) && vis.Has(c, b) {
			bits |= transitive
		}
		if ahead(row, a, c) && vis.Has(c, b) {
			bits |= prefix
		}
	}
	return bits
}

// lists: of each of n transactions those that it sees, rising.
func lists(n int, vis rel.Rel) [][]int {
	all := make([][]int, n)
	for a := range 64 {
		for i := range n {
			if vis[a]>>i&1 == 1 {
				all[i] = append(all[i], a)
			}
		}
	}
	return all
}

// sameLists: whether lists are the same, empty ones be they nil or not.
func sameLists(a, b [][]int) bool { return slices.EqualFunc(a, b, slices.Equal[[]int]) }

// counted: how often each of some things was so, and how often not.
type counted map[string][2]int

func (c counted) add(what string, yes bool) {
	n := c[what]
	if yes {
		n[1]++
	} else {
		n[0]++
	}
	c[what] = n
}

func (c counted) atLeast(t *testing.T, least int) {
	t.Helper()
	for what, n := range c {
		if n[0] < least || n[1] < least {
			t.Error("the mixed ones are too much alike:", what, n)
		}
	}
}

// verify: holds everything that may be answered of a history, an order, and what is seen, against the model.
func verify(t *testing.T, o *order.Orders, row []int, vis rel.Rel, c counted) {
	t.Helper()
	r, k := right(o, row, vis), 0
	if got := Right(o, row, vis); got != r {
		t.Fatalf("Right = %v: %+v, %v, %v", got, o, row, vis[:8])
	}
	c.add("right", r)
	if r {
		k = kept(o, row, vis)
		if got := Kept(o, row, vis); got != k {
			t.Fatalf("Kept = %d, not %d: %+v, %v, %v", got, k, o, row, vis[:8])
		}
		for _, bit := range []int{1, 2, 4, 8, 16, 32} {
			c.add("kept "+strconv.Itoa(bit), k&bit != 0)
		}
	}
	whole := isRow(o.N, row) && vis.Within(all(o.N))
	w := Witness(row, vis)
	if whole && (!slices.Equal(w.Order, row) || !sameLists(w.Sees, lists(o.N, vis))) {
		t.Fatalf("Witness = %v: %v, %v", w, row, vis[:8])
	}
	for l := -1; l <= 12; l++ {
		want := l >= 0 && l < 12 && o.Sound && r && asks[l]&k == asks[l]
		if got := Holds(o, api.Level(l), row, vis); got != want {
			t.Fatalf("Holds %d = %v: %+v, %v, %v", l, got, o, row, vis[:8])
		}
		if got := Accepts(o, api.Level(l), w); got != want && whole {
			t.Fatalf("Accepts %d = %v: %+v, %v", l, got, o, w)
		}
		if l >= 0 && l < 12 {
			c.add("holds "+strconv.Itoa(l), want)
		}
	}
}

// all: the relation by which each of n transactions sees each.
func all(n int) rel.Rel {
	var r rel.Rel
	for a := range n {
		r[a] = set.Below(n)
	}
	return r
}

func TestP12_1Row(t *testing.T) {
	cases := []struct {
		n    int
		row  []int
		want bool
	}{
		{0, nil, true},
		{0, []int{}, true},
		{0, []int{0}, false},
		{1, []int{0}, true},
		{1, []int{1}, false},
		{1, nil, false},
		{1, []int{0, 0}, false},
		{2, []int{1, 0}, true},
		{2, []int{0, 0}, false},
		{2, []int{1, 1}, false},
		{2, []int{0}, false},
		{2, []int{0, 1, 2}, false},
		{2, []int{0, 1, 64}, false},
		{2, []int{0, 1, 0}, false},
		{2, []int{0, -1}, false},
		{2, []int{0, 65}, false},
		{3, []int{2, 0, 1}, true},
		{3, []int{2, 0, 3}, false},
		{3, []int{2, 0, 1, -1}, false},
		{3, []int{0, 1, 1<<32 + 2}, false},
		{3, []int{-64, 1, 2}, false},
	}
	for _, c := range cases {
		if got := Row(c.n, c.row); got != c.want || got != isRow(c.n, c.row) {
			t.Errorf("Row(%d, %v) = %v", c.n, c.row, got)
		}
	}
	m := sample.Mixed(1)
	for n := range 65 {
		row := m.Row(n)
		if !Row(n, row) || n > 0 && Row(n-1, row) || n < 64 && Row(n+1, row) {
			t.Errorf("Row of %d: %v", n, row)
		}
		for i := range row {
			was := row[i]
			for _, wrong := range append([]int{n, row[(i+1)%n], row[(i+n-1)%n]}, sample.Far()...) {
				row[i] = wrong
				if got := Row(n, row); got != (wrong == was) {
					t.Errorf("Row(%d, %v) = %v", n, row, got)
				}
			}
			row[i] = was
		}
		for _, more := range append([]int{0, n / 2, n - 1, n}, sample.Far()...) {
			if n > 0 && Row(n, append(slices.Clone(row), more)) {
				t.Errorf("Row of %d, and %d", n, more)
			}
		}
	}
}

// All relations of three numbers, in all orders: of whatever is seen it is told whether it is right, and what is kept.
func TestP12_1And2OfAllThatIsSeen(t *testing.T) {
	m, c := sample.Mixed(2), counted{}
	for i := range 30 {
		h, _, _ := m.Right(3, 1+i%2)
		o := sample.Follow(t, h)
		for _, row := range sample.Rows(3) {
			for bits := range 1 << 9 {
				vis := rel.Rel{set.Set(bits & 7), set.Set(bits >> 3 & 7), set.Set(bits >> 6)}
				verify(t, o, row, vis, c)
			}
		}
	}
	c.atLeast(t, 50)
}

// What is right by its making, and what isn't any more, because of one thing.
func TestP12_1And2OfMixed(t *testing.T) {
	m, c := sample.Mixed(3), counted{}
	for i := range 2500 {
		n := m.Next(7)
		if i%100 == 0 {
			n = 20 + m.Next(45)
		}
		h, row, vis := m.Right(n, 1+i%3)
		o := sample.Follow(t, h)
		if !o.Sound || !right(o, row, vis) {
			t.Fatal("the model says that it isn't right", h, row, vis)
		}
		verify(t, o, row, vis, c)
		if n < 2 {
			continue
		}
		seen := vis
		seen[m.Next(n)] ^= 1 << m.Next(n)
		verify(t, o, row, seen, c)
		other := slices.Clone(row)
		k := m.Next(n - 1)
		other[k], other[k+1] = other[k+1], other[k]
		verify(t, o, other, vis, c)
		other[k] = other[k+1]
		verify(t, o, other, vis, c)
		verify(t, o, row[:n-1], vis, c)
		verify(t, o, append(slices.Clone(row), n), vis, c)
	}
	c.atLeast(t, 100)
}

// The document's words, one by one.
func TestP12_1Right(t *testing.T) {
	// 1 overwrites what 0 writes, 2 reads of 1, 3 of 0, and 4 what is there at first.
	o := sample.Parsed(t, "txn 0 0 20\nw 0 1\ntxn 1 1 21\nw 0 2\ntxn 2 2 22\nr 0 2\ntxn 3 3 23\nr 0 1\ntxn 4 4 24\nr 0 0\nr 9 0\n")
	row, vis := []int{0, 1, 2, 3, 4}, sample.Pairs([2]int{1, 2}, [2]int{0, 3})
	cases := []struct {
		what string
		row  []int
		vis  rel.Rel
		want bool
	}{
		{"who reads of one sees that one", row, vis, true},
		{"of two that are seen the last one is read of", row, vis.Union(sample.Pairs([2]int{0, 2})), true},
		{"of two that are seen the first one is read of", row, vis.Union(sample.Pairs([2]int{1, 3})), false},
		{"of two that are seen the first one is read of, that is the last one in another order", []int{1, 0, 2, 3, 4}, vis.Union(sample.Pairs([2]int{1, 3})), true},
		{"of two that are seen the last one is read of, that is the first one in another order", []int{1, 0, 2, 3, 4}, vis.Union(sample.Pairs([2]int{0, 2})), false},
		{"who reads of nobody sees one that writes to another key", row, vis.Union(sample.Pairs([2]int{2, 4}, [2]int{3, 4})), true},
		{"who reads of nobody sees one that writes to that key", row, vis.Union(sample.Pairs([2]int{0, 4})), false},
		{"who reads of one doesn't see that one", row, sample.Pairs([2]int{1, 2}), false},
		{"who reads of one sees another one", row, sample.Pairs([2]int{1, 2}, [2]int{1, 3}), false},
		{"nobody is seen", row, rel.Rel{}, false},
		{"who is seen comes behind", []int{0, 2, 1, 3, 4}, vis, false},
		{"who is seen comes behind, and nothing is read", row, vis.Union(sample.Pairs([2]int{4, 2})), false},
		{"one sees itself", row, vis.Union(sample.Pairs([2]int{4, 4})), false},
		{"one sees itself, that writes", row, vis.Union(sample.Pairs([2]int{0, 0})), false},
		{"one that isn't there is seen", row, vis.Union(sample.Pairs([2]int{5, 2})), false},
		{"one that isn't there sees", row, vis.Union(sample.Pairs([2]int{0, 5})), false},
		{"two that aren't there see each other", row, vis.Union(sample.Pairs([2]int{62, 63})), false},
		{"one is missing", row[:4], vis, false},
		{"one is there twice", []int{0, 1, 2, 3, 4, 4}, vis, false},
		{"one is there twice, for another one", []int{0, 1, 2, 3, 3}, vis, false},
		{"one is too many", []int{0, 1, 2, 3, 4, 5}, vis, false},
		{"one is no transaction", []int{0, 1, 2, 3, -1}, vis, false},
		{"there is no order", nil, vis, false},
	}
	for _, c := range cases {
		if got := Right(o, c.row, c.vis); got != c.want {
			t.Errorf("%s: Right = %v", c.what, got)
		}
		verify(t, o, c.row, c.vis, counted{})
	}
}

func TestP12_1Kept(t *testing.T) {
	// By Session 0 comes ahead of 1, by Time 0 of 1, 2 and 3; 0 and 2 write to one key, and 1 and 3; nobody reads of anybody.
	o := sample.Parsed(t, "txn 0 0 1\nw 0 1\ntxn 0 4 20\nw 1 2\ntxn 1 5 21\nw 0 3\ntxn 2 6 22\nw 1 4\n")
	row := []int{0, 1, 2, 3}
	cases := []struct {
		what string
		row  []int
		vis  rel.Rel
		want int
	}{
		{"nobody is seen", row, rel.Rel{}, transitive | prefix},
		{"by Session", row, rel.Chain(0, 1), session | transitive | prefix},
		{"by Time", row, sample.Pairs([2]int{0, 1}, [2]int{0, 2}, [2]int{0, 3}), session | inTime | transitive | prefix},
		{"by Time, but for one", row, sample.Pairs([2]int{0, 1}, [2]int{0, 2}), session | transitive | prefix},
		{"by Rivals", row, sample.Pairs([2]int{0, 2}, [2]int{1, 3}), transitive | rivalsBit},
		{"by Rivals, but for one", row, sample.Pairs([2]int{0, 2}), transitive | prefix},
		{"by Rivals, the other way", []int{3, 2, 1, 0}, sample.Pairs([2]int{2, 0}, [2]int{3, 1}), transitive | rivalsBit},
		{"by Rivals, the wrong way", []int{3, 2, 1, 0}, sample.Pairs([2]int{3, 1}), transitive | prefix},
		{"a way that isn't gone on", row, sample.Pairs([2]int{1, 2}, [2]int{2, 3}), 0},
		{"a way that is gone on, but not from the beginning", row, rel.Chain(1, 2, 3), transitive},
		{"one ahead of one that is seen", []int{1, 0, 2, 3}, sample.Pairs([2]int{0, 3}, [2]int{0, 2}), transitive},
		{"all ahead of one that is seen", []int{1, 0, 2, 3}, sample.Pairs([2]int{0, 3}, [2]int{0, 2}, [2]int{1, 2}, [2]int{1, 3}), transitive | prefix | rivalsBit},
		{"all", row, rel.Chain(row...), every},
		{"all, but in another order", []int{1, 0, 2, 3}, rel.Chain(1, 0, 2, 3), transitive | prefix | rivalsBit | total},
		{"all but one", row, rel.Chain(0, 1, 2).Union(rel.Chain(0, 1, 3)), every &^ total},
	}
	for _, c := range cases {
		if got := Kept(o, c.row, c.vis); got != c.want || !Right(o, c.row, c.vis) {
			t.Errorf("%s: Kept = %d, not %d", c.what, got, c.want)
		}
		verify(t, o, c.row, c.vis, counted{})
	}
}

// A history that isn't Sound keeps no level, however right the order is, and what is seen.
func TestP12_2NotSound(t *testing.T) {
	for _, wrong := range []string{"r 5 0\nw 5 9\nr 5 0\n", "r 5 9\nw 5 9\n", "w 5 8\nw 5 9\nr 5 8\n", "r 5 7\nw 4 8\n"} {
		text := "txn 0 0 1\nw 5 7\nw 0 1\nw 5 6\ntxn 1 2 3\nr 0 1\n"
		sound := sample.Parsed(t, text)
		o := sample.Parsed(t, text+"txn 2 4 5\n"+wrong)
		row := []int{0, 1, 2}
		vis := rel.Chain(row...)
		if wrong[:3] == "r 5" && wrong[4] == '0' {
			vis = rel.Chain(0, 1)
		}
		if !sound.Sound || o.Sound || !Right(o, row, vis) || Kept(o, row, vis)&(transitive|prefix) != transitive|prefix {
			t.Errorf("%q isn't what it was to be: %+v", wrong, o)
		}
		for l := range api.Level(12) {
			if Holds(o, l, row, vis) || Accepts(o, l, Witness(row, vis)) || !Holds(sound, l, row[:2], rel.Chain(0, 1)) {
				t.Errorf("%q is accepted by %d", wrong, l)
			}
		}
	}
}

// The document's example: a history without transactions is accepted by each level, and by nothing that is no level.
func TestP12_2And3NoTransactions(t *testing.T) {
	o := sample.Follow(t, nil)
	for l := range api.Level(12) {
		if !Holds(o, l, nil, rel.Rel{}) || !Holds(o, l, []int{}, rel.Rel{}) || !Accepts(o, l, api.Witness{}) || !Accepts(o, l, api.Witness{Order: []int{}, Sees: [][]int{}}) {
			t.Error("not accepted", l)
		}
		if Holds(o, l, []int{0}, rel.Rel{}) || Holds(o, l, nil, sample.Pairs([2]int{0, 1})) || Accepts(o, l, api.Witness{Sees: [][]int{nil}}) || Accepts(o, l, api.Witness{Order: []int{0}}) {
			t.Error("accepted", l)
		}
	}
	if !Right(o, nil, rel.Rel{}) || Kept(o, nil, rel.Rel{}) != every {
		t.Error("Kept", Kept(o, nil, rel.Rel{}))
	}
	for _, l := range append([]int{12, 13, 16, 256, 256 + 11}, sample.Far()...) {
		if Holds(o, api.Level(l), nil, rel.Rel{}) || Accepts(o, api.Level(l), api.Witness{}) {
			t.Error("accepted by what is no level", l)
		}
	}
	if w := Witness(nil, rel.Rel{}); len(w.Order) != 0 || len(w.Sees) != 0 {
		t.Error("Witness", w)
	}
}

// All that there may be: 64 transactions.
func TestP12Of64(t *testing.T) {
	m := sample.Mixed(4)
	row := m.Row(64)
	var h []api.Txn
	for i := range 64 {
		h = append(h, api.Txn{Session: i, Begin: 1 + i, Commit: 100 + i})
	}
	for k, i := range row {
		h[i].Ops = []api.Op{{Key: 0}, sample.Write(0, i)}
		if k > 0 {
			h[i].Ops[0] = sample.Read(0, row[k-1])
		}
	}
	o, vis := sample.Follow(t, h), rel.Chain(row...)
	w := Witness(row, vis)
	for l := range api.Level(12) {
		if !Holds(o, l, row, vis) || !Accepts(o, l, w) {
			t.Error("not accepted", l)
		}
		less, more := vis, vis
		less[row[62]] = 0
		more[row[63]] = 1 << row[63]
		if Holds(o, l, row, less) || Holds(o, l, row, more) || Holds(o, l, row[:63], vis) {
			t.Error("accepted", l)
		}
	}
	if Kept(o, row, vis) != every || !sameLists(w.Sees, lists(64, vis)) {
		t.Error("Kept", Kept(o, row, vis), w)
	}
	for _, wrong := range sample.Far() {
		w := Witness(row, vis)
		w.Sees[9] = append(w.Sees[9], wrong)
		if Accepts(o, 0, w) {
			t.Error("Accepts what sees", wrong)
		}
	}
}

func TestP12_3Witness(t *testing.T) {
	vis := sample.Pairs([2]int{3, 1}, [2]int{0, 1}, [2]int{2, 1}, [2]int{1, 0}, [2]int{2, 2}, [2]int{9, 3}, [2]int{63, 3}, [2]int{0, 9})
	row := []int{2, 3, 1, 0}
	w := Witness(row, vis)
	if !slices.Equal(w.Order, row) || !sameLists(w.Sees, [][]int{{1}, {0, 2, 3}, {2}, {9, 63}}) {
		t.Error("Witness", w)
	}
	if w := Witness([]int{0}, rel.Rel{}); !slices.Equal(w.Order, []int{0}) || len(w.Sees) != 1 || len(w.Sees[0]) != 0 {
		t.Error("Witness of one", w)
	}
	m := sample.Mixed(5)
	for n := range 65 {
		row := m.Row(n)
		vis := m.Vis(row)
		if w := Witness(row, vis); !slices.Equal(w.Order, row) || !sameLists(w.Sees, lists(n, vis)) {
			t.Error("Witness", n, w)
		}
	}
}

// The history of these: 2 reads of 1, that overwrites what 0 writes, and comes behind 0 in time and in its session.
const three = "txn 0 0 1\nw 0 1\ntxn 0 2 3\nw 0 2\ntxn 1 4 5\nr 0 2\n"

func TestP12_3Accepts(t *testing.T) {
	o := sample.Parsed(t, three)
	row := []int{0, 1, 2}
	cases := []struct {
		what string
		w    api.Witness
		want []api.Level
	}{
		{"all", api.Witness{Order: row, Sees: [][]int{nil, {0}, {0, 1}}}, []api.Level{0, 1, 2, 3, 4, 5, 6, 7, 8, 9, 10, 11}},
		{"all, an empty list", api.Witness{Order: row, Sees: [][]int{{}, {0}, {0, 1}}}, []api.Level{0, 1, 2, 3, 4, 5, 6, 7, 8, 9, 10, 11}},
		{"all, falling", api.Witness{Order: row, Sees: [][]int{nil, {0}, {1, 0}}}, []api.Level{0, 1, 2, 3, 4, 5, 6, 7, 8, 9, 10, 11}},
		{"all, twice", api.Witness{Order: row, Sees: [][]int{nil, {0, 0, 0}, {0, 1, 0, 1}}}, []api.Level{0, 1, 2, 3, 4, 5, 6, 7, 8, 9, 10, 11}},
		{"what must be", api.Witness{Order: row, Sees: [][]int{nil, nil, {1}}}, []api.Level{0}},
		{"what must be, and the session", api.Witness{Order: row, Sees: [][]int{nil, {0}, {1}}}, []api.Level{0, 1, 3}},
		{"another order", api.Witness{Order: []int{1, 0, 2}, Sees: [][]int{nil, nil, {1}}}, []api.Level{0}},
		{"another order, that reads wrongly", api.Witness{Order: []int{1, 0, 2}, Sees: [][]int{nil, nil, {0, 1}}}, nil},
		{"what must be isn't seen", api.Witness{Order: row, Sees: [][]int{nil, {0}, {0}}}, nil},
		{"too few lists", api.Witness{Order: row, Sees: [][]int{nil, {0}}}, nil},
		{"too many lists", api.Witness{Order: row, Sees: [][]int{nil, {0}, {0, 1}, nil}}, nil},
		{"lists without an order", api.Witness{Sees: [][]int{nil, {0}, {0, 1}}}, nil},
		{"an order without lists", api.Witness{Order: row}, nil},
		{"nothing", api.Witness{}, nil},
		{"too short an order", api.Witness{Order: row[:2], Sees: [][]int{nil, {0}, {0, 1}}}, nil},
		{"too long an order", api.Witness{Order: []int{0, 1, 2, 3}, Sees: [][]int{nil, {0}, {0, 1}}}, nil},
		{"an order that has one twice", api.Witness{Order: []int{0, 1, 2, 2}, Sees: [][]int{nil, {0}, {0, 1}}}, nil},
		{"one sees itself", api.Witness{Order: row, Sees: [][]int{{0}, {0}, {0, 1}}}, nil},
		{"one sees one that comes behind", api.Witness{Order: row, Sees: [][]int{{2}, {0}, {0, 1}}}, nil},
	}
	for _, c := range cases {
		for l := range api.Level(12) {
			if got := Accepts(o, l, c.w); got != slices.Contains(c.want, l) {
				t.Errorf("%s: Accepts %d = %v", c.what, l, got)
			}
		}
	}
	for _, wrong := range append([]int{3, 4, 63}, sample.Far()...) {
		for i := range 3 {
			w := api.Witness{Order: row, Sees: [][]int{{}, {0}, {0, 1}}}
			w.Sees[i] = append(w.Sees[i], wrong)
			if Accepts(o, 0, w) {
				t.Error("Accepts what sees", wrong)
			}
			w.Sees[i] = w.Sees[i][:i]
			w.Order = slices.Clone(row)
			w.Order[i] = wrong
			if Accepts(o, 0, w) {
				t.Error("Accepts what orders", wrong)
			}
			w.Order[i] = i
			if !Accepts(o, 11, w) || Accepts(o, api.Level(wrong), w) && wrong > 11 {
				t.Error("Accepts", wrong)
			}
		}
	}
}

// P2: what is handed in stays as it was, its spare room too; what is answered is apart, and the same each time.
func TestP2Apart(t *testing.T) {
	m := sample.Mixed(6)
	for range 300 {
		n := m.Next(7)
		h, row, vis := m.Right(n, 2)
		o, was := sample.Follow(t, h), sample.Follow(t, h)
		room := append(slices.Clone(row), 77, 78, 79)
		w, other := Witness(room[:n], vis), Witness(room[:n], vis)
		for l := range api.Level(12) {
			if Accepts(o, l, w) != Accepts(o, l, w) || Holds(o, l, room[:n], vis) != Accepts(o, l, other) {
				t.Fatal("another answer", o, w)
			}
		}
		if !Row(n, room[:n]) || !Right(o, room[:n], vis) || Kept(o, room[:n], vis) != Kept(o, row, vis) {
			t.Fatal("another answer", o, row, vis)
		}
		_ = append(w.Order, 50, 51)
		for i := range w.Sees {
			_ = append(w.Sees[i], 50, 51, 52)
		}
		if !slices.Equal(w.Order, row) || !sameLists(w.Sees, lists(n, vis)) || !slices.Equal(room, append(slices.Clone(row), 77, 78, 79)) {
			t.Fatal("lists share memory", w, room)
		}
		for i := range w.Sees {
			clear(w.Sees[i])
			w.Order[i] = 50
		}
		clear(w.Sees)
		if !slices.Equal(other.Order, row) || !sameLists(other.Sees, lists(n, vis)) || !slices.Equal(room, append(slices.Clone(row), 77, 78, 79)) {
			t.Fatal("two answers share memory", other, room)
		}
		clear(room)
		if !slices.Equal(other.Order, row) {
			t.Fatal("what was handed in is kept", other)
		}
		if !sample.Same(o, was) {
			t.Fatal("the Orders are changed", o, was)
		}
	}
	// Who is there twice stays so, and in that row.
	o, order := sample.Parsed(t, three), []int{0, 1, 2, 7}
	seen := []int{1, 0, 1, 9}
	if !Accepts(o, 0, api.Witness{Order: order[:3], Sees: [][]int{nil, {0}, seen[:3]}}) || !slices.Equal(order, []int{0, 1, 2, 7}) || !slices.Equal(seen, []int{1, 0, 1, 9}) {
		t.Error("the witness is changed", order, seen)
	}
}

// P1: every call ends without a panic, at whatever rows, relations and witnesses, and at many numbers.
func TestP1NoPanic(t *testing.T) {
	m := sample.Mixed(8)
	many := make([]int, 1<<16)
	for i := range many {
		many[i] = i%200 - 70
	}
	rows := [][]int{nil, {}, {0}, {0, 0}, {2, 1, 0, 2}, {-1, 64, 0, 9}, {2, 0, 1}, sample.Far(), many, many[70:135], many[:65]}
	var full rel.Rel
	for a := range full {
		full[a] = math.MaxUint64
	}
	levels := append([]int{0, 11, 12}, sample.Far()...)
	for _, n := range []int{0, 1, 3, 64} {
		h, right, vis := m.Right(n, 3)
		o := sample.Follow(t, h)
		for _, row := range append(rows, right) {
			for _, k := range levels {
				Row(k, row)
			}
			for _, r := range []rel.Rel{{}, full, vis, rel.Chain(row...)} {
				Right(o, row, r)
				Kept(o, row, r)
				w := Witness(row, r)
				for _, l := range levels {
					Holds(o, api.Level(l), row, r)
					Accepts(o, api.Level(l), w)
					Accepts(o, api.Level(l), api.Witness{Order: row, Sees: rows})
					Accepts(o, api.Level(l), api.Witness{Order: right, Sees: slices.Repeat([][]int{many}, n)})
				}
			}
		}
	}
}
