package rename

import (
	"maps"
	"math"
	"slices"
	"testing"

	"burgage/api"
	"burgage/fuel"
	"burgage/history"
	"burgage/order"
	"burgage/sample"
	"burgage/script"
	"burgage/vector"
)

// most: the greatest value, and the greatest stamp, that may be.
const most = 2147483647

// three: two transactions at once of the sessions 0 and 1, and one of the session 0 behind both, of the keys 0 and 1, the values 0, 5 and 7, and the stamps from 1 to 6.
const three = "txn 0 1 4\nw 0 5\nr 1 0\ntxn 1 2 3\nr 0 5\nw 1 7\ntxn 0 5 6\nr 1 7\n"

// parsed: the history of a text.
func parsed(t *testing.T, text string) []api.Txn {
	t.Helper()
	h, line, e := script.Parse(text)
	if e != api.OK {
		t.Fatal("the text is wrong", line, e)
	}
	return h
}

// all: what is in a history, kind by kind: keys, sessions, values with 0, and stamps.
func all(h []api.Txn) [4][]int {
	l := [4][]int{2: {0}}
	for _, t := range h {
		l[1] = append(l[1], t.Session)
		l[3] = append(l[3], t.Begin, t.Commit)
		for _, o := range t.Ops {
			l[0], l[2] = append(l[0], o.Key), append(l[2], o.Value)
		}
	}
	return l
}

// by: the name of a thing of a kind.
func by(m Map, kind, own int) int {
	if other, ok := [4]map[int]int{m.Keys, m.Sessions, m.Values, m.Stamps}[kind][own]; ok && !(kind == 2 && own == 0) {
		return other
	}
	return own
}

// placed: the numbers of the transactions, in the order in which they come; false: the Order isn't one.
func placed(n int, row []int) ([]int, bool) {
	var numbers []int
	for i := range n {
		numbers = append(numbers, i)
	}
	if len(row) == 0 {
		return numbers, true
	}
	for _, i := range numbers {
		many := 0
		for _, k := range row {
			if k == i {
				many++
			}
		}
		if many != 1 {
			return nil, false
		}
	}
	return row, len(row) == n
}

// wanted: what Apply is to answer, told pair by pair.
func wanted(h []api.Txn, m Map) ([]api.Txn, bool) {
	row, ok := placed(len(h), m.Order)
	if !ok || history.Check(h) != api.OK {
		return nil, false
	}
	for kind, l := range all(h) {
		for _, a := range l {
			for _, b := range l {
				x, y := by(m, kind, a), by(m, kind, b)
				if a != b && x == y || kind == 3 && a < b && x > y {
					return nil, false
				}
			}
		}
	}
	var x []api.Txn
	for _, i := range row {
		t := api.Txn{Session: by(m, 1, h[i].Session), Begin: by(m, 3, h[i].Begin), Commit: by(m, 3, h[i].Commit)}
		for _, o := range h[i].Ops {
			o.Key, o.Value = by(m, 0, o.Key), by(m, 2, o.Value)
			t.Ops = append(t.Ops, o)
		}
		x = append(x, t)
	}
	if history.Check(x) != api.OK {
		return nil, false
	}
	return x, true
}

func TestP21_1Apply(t *testing.T) {
	cases := []struct {
		what string
		m    Map
		want string
	}{
		{"nothing", Map{}, three},
		{"nothing, with room", Map{Keys: map[int]int{}, Sessions: map[int]int{}, Values: map[int]int{}, Stamps: map[int]int{}, Order: []int{}}, three},
		{"the keys, given each other's names", Map{Keys: map[int]int{0: 1, 1: 0}}, "txn 0 1 4\nw 1 5\nr 0 0\ntxn 1 2 3\nr 1 5\nw 0 7\ntxn 0 5 6\nr 0 7\n"},
		{"one key", Map{Keys: map[int]int{1: 63}}, "txn 0 1 4\nw 0 5\nr 63 0\ntxn 1 2 3\nr 0 5\nw 63 7\ntxn 0 5 6\nr 63 7\n"},
		{"keys that aren't there", Map{Keys: map[int]int{2: 0, 3: 0, 4: -1, -1: 1, 64: 0}}, three},
		{"the sessions, given each other's names", Map{Sessions: map[int]int{0: 1, 1: 0}}, "txn 1 1 4\nw 0 5\nr 1 0\ntxn 0 2 3\nr 0 5\nw 1 7\ntxn 1 5 6\nr 1 7\n"},
		{"one session", Map{Sessions: map[int]int{0: 63}}, "txn 63 1 4\nw 0 5\nr 1 0\ntxn 1 2 3\nr 0 5\nw 1 7\ntxn 63 5 6\nr 1 7\n"},
		{"sessions that aren't there", Map{Sessions: map[int]int{2: 0, 3: 1, 4: 64, -1: -1}}, three},
		{"the values, given each other's names", Map{Values: map[int]int{5: 7, 7: 5}}, "txn 0 1 4\nw 0 7\nr 1 0\ntxn 1 2 3\nr 0 7\nw 1 5\ntxn 0 5 6\nr 1 5\n"},
		{"the greatest value, and the least one", Map{Values: map[int]int{5: most, 7: 1}}, "txn 0 1 4\nw 0 2147483647\nr 1 0\ntxn 1 2 3\nr 0 2147483647\nw 1 1\ntxn 0 5 6\nr 1 1\n"},
		{"0, which keeps its name", Map{Values: map[int]int{0: 9}}, three},
		{"0, as another one that is there, or as what none may be", Map{Values: map[int]int{0: 5, 7: 9}}, "txn 0 1 4\nw 0 5\nr 1 0\ntxn 1 2 3\nr 0 5\nw 1 9\ntxn 0 5 6\nr 1 9\n"},
		{"0, below all", Map{Values: map[int]int{0: -1}}, three},
		{"values that aren't there", Map{Values: map[int]int{1: 5, 2: 7, 3: 0, -1: 5}}, three},
		{"stamps", Map{Stamps: map[int]int{1: 0, 2: 1, 3: 2, 4: 30, 5: 31, 6: most}}, "txn 0 0 30\nw 0 5\nr 1 0\ntxn 1 1 2\nr 0 5\nw 1 7\ntxn 0 31 2147483647\nr 1 7\n"},
		{"one stamp", Map{Stamps: map[int]int{6: 7}}, "txn 0 1 4\nw 0 5\nr 1 0\ntxn 1 2 3\nr 0 5\nw 1 7\ntxn 0 5 7\nr 1 7\n"},
		{"stamps that aren't there", Map{Stamps: map[int]int{0: 6, 7: 1, 8: 1, -1: 3}}, three},
		{"the order as it is", Map{Order: []int{0, 1, 2}}, three},
		{"another order", Map{Order: []int{1, 0, 2}}, "txn 1 2 3\nr 0 5\nw 1 7\ntxn 0 1 4\nw 0 5\nr 1 0\ntxn 0 5 6\nr 1 7\n"},
		{"the order in which one comes earlier by two", Map{Order: []int{0, 2, 1}}, "txn 0 1 4\nw 0 5\nr 1 0\ntxn 0 5 6\nr 1 7\ntxn 1 2 3\nr 0 5\nw 1 7\n"},
	}
	h := parsed(t, three)
	for _, c := range cases {
		if x, ok := Apply(h, c.m); !ok || script.Print(x) != c.want {
			t.Errorf("%s: Apply = %q, %v", c.what, script.Print(x), ok)
		}
	}
}

// The Order says who comes where, not where each one comes: in a turn of three these are unlike.
func TestP21_1Turned(t *testing.T) {
	h := parsed(t, "txn 0 1 4\nw 0 5\ntxn 1 2 3\nw 0 7\ntxn 2 5 6\nr 1 0\n")
	if x, ok := Apply(h, Map{Order: []int{1, 2, 0}}); !ok || script.Print(x) != "txn 1 2 3\nw 0 7\ntxn 2 5 6\nr 1 0\ntxn 0 1 4\nw 0 5\n" {
		t.Errorf("Apply = %q, %v", script.Print(x), ok)
	}
}

func TestP21_1Refused(t *testing.T) {
	cases := []struct {
		what string
		m    Map
	}{
		{"a key by the name of another one", Map{Keys: map[int]int{0: 1}}},
		{"keys by one name", Map{Keys: map[int]int{0: 9, 1: 9}}},
		{"a key that is too great", Map{Keys: map[int]int{0: 64}}},
		{"a key below 0", Map{Keys: map[int]int{1: -1}}},
		{"a session by the name of another one", Map{Sessions: map[int]int{0: 1}}},
		{"sessions by one name", Map{Sessions: map[int]int{0: 9, 1: 9}}},
		{"a session that is too great", Map{Sessions: map[int]int{1: 64}}},
		{"a session below 0", Map{Sessions: map[int]int{1: -1}}},
		{"a value by the name of another one", Map{Values: map[int]int{5: 7}}},
		{"values by one name", Map{Values: map[int]int{5: 9, 7: 9}}},
		{"a value by the name of 0", Map{Values: map[int]int{5: 0}}},
		{"a value by the name of 0, and 0 by its", Map{Values: map[int]int{5: 0, 0: 5}}},
		{"a value that is too great", Map{Values: map[int]int{5: most + 1}}},
		{"a value below 0", Map{Values: map[int]int{7: -1}}},
		{"a stamp by the name of another one", Map{Stamps: map[int]int{1: 2}}},
		{"a stamp by that of a later one", Map{Stamps: map[int]int{1: 3, 3: 1}}},
		{"stamps of two that are at once, given each other's names", Map{Stamps: map[int]int{1: 2, 2: 1}}},
		{"ends of two that are at once, given each other's names", Map{Stamps: map[int]int{3: 4, 4: 3}}},
		{"a stamp above a later one", Map{Stamps: map[int]int{4: 9}}},
		{"a stamp below 0", Map{Stamps: map[int]int{1: -1}}},
		{"a stamp that is too great", Map{Stamps: map[int]int{6: most + 1}}},
		{"an order in which a session goes back", Map{Order: []int{2, 1, 0}}},
		{"an order in which a session goes back, the others as they are", Map{Order: []int{1, 2, 0}}},
		{"an order that lacks the last one", Map{Order: []int{0, 1}}},
		{"an order of one", Map{Order: []int{0}}},
		{"an order that lacks the first one", Map{Order: []int{1, 2}}},
		{"an order with one more", Map{Order: []int{0, 1, 2, 3}}},
		{"an order with one twice, and all", Map{Order: []int{0, 1, 2, 2}}},
		{"an order with one twice", Map{Order: []int{0, 1, 1}}},
		{"an order with one thrice", Map{Order: []int{0, 0, 0}}},
		{"an order with one that isn't there", Map{Order: []int{0, 1, 3}}},
		{"an order with one below 0", Map{Order: []int{-1, 0, 1}}},
	}
	h := parsed(t, three)
	for _, c := range cases {
		if _, ok := wanted(h, c.m); ok {
			t.Errorf("%s: the model takes it", c.what)
		}
		if x, ok := Apply(h, c.m); ok || len(x) != 0 {
			t.Errorf("%s: Apply = %q, %v", c.what, script.Print(x), ok)
		}
	}
}

// Where what is there doesn't overlap in time, or in values, nothing but the names themselves refuses two by one name.
func TestP21_1Merged(t *testing.T) {
	h := parsed(t, "txn 0 1 2\nw 0 1\nw 3 2\ntxn 4 3 4\nr 0 0\nw 1 3\n")
	for _, c := range []struct {
		m  Map
		ok bool
	}{
		{Map{Keys: map[int]int{0: 1}}, false},
		{Map{Keys: map[int]int{3: 0}}, false},
		{Map{Keys: map[int]int{0: 3}}, false},
		{Map{Keys: map[int]int{0: 2}}, true},
		{Map{Keys: map[int]int{0: 1, 1: 0}}, true},
		{Map{Keys: map[int]int{0: 1, 1: 3, 3: 0}}, true},
		{Map{Keys: map[int]int{0: 1, 1: 3}}, false},
		{Map{Sessions: map[int]int{4: 0}}, false},
		{Map{Sessions: map[int]int{0: 4}}, false},
		{Map{Sessions: map[int]int{0: 7, 4: 7}}, false},
		{Map{Sessions: map[int]int{0: 4, 4: 0}}, true},
		{Map{Sessions: map[int]int{0: 4, 4: 5, 5: 4}}, true},
	} {
		want, ok := wanted(h, c.m)
		if x, took := Apply(h, c.m); ok != c.ok || took != c.ok || !history.Same(x, want) {
			t.Errorf("%v: Apply = %q, %v", c.m, script.Print(x), took)
		}
	}
}

// wrong: histories that may not be, or are too large.
func wrong() [][]api.Txn {
	many, wide := sample.Apart(64), sample.Apart(33)
	many = append(many, api.Txn{Begin: 5000, Commit: 5001, Ops: []api.Op{{}}})
	for i := range wide {
		wide[i].Ops = make([]api.Op, 32)
	}
	one := func(t api.Txn) []api.Txn { return []api.Txn{t} }
	return [][]api.Txn{
		make([]api.Txn, 1), many, wide,
		one(api.Txn{Session: 64, Commit: 1, Ops: []api.Op{{}}}),
		one(api.Txn{Session: -1, Commit: 1, Ops: []api.Op{{}}}),
		one(api.Txn{Begin: -1, Commit: 1, Ops: []api.Op{{}}}),
		one(api.Txn{Begin: 2, Commit: 1, Ops: []api.Op{{}}}),
		one(api.Txn{Begin: 1, Commit: 1, Ops: []api.Op{{}}}),
		one(api.Txn{Commit: most + 1, Ops: []api.Op{{}}}),
		one(api.Txn{Commit: 1, Ops: []api.Op{{Key: 64}}}),
		one(api.Txn{Commit: 1, Ops: []api.Op{{Key: -1}}}),
		one(api.Txn{Commit: 1, Ops: []api.Op{{Value: 5}}}),
		one(api.Txn{Commit: 1, Ops: []api.Op{{Write: true}}}),
		one(api.Txn{Commit: 1, Ops: []api.Op{{Write: true, Value: -1}}}),
		one(api.Txn{Commit: 1, Ops: []api.Op{{Write: true, Value: 5}, {Key: 1, Value: 5}}}),
		one(api.Txn{Commit: 1, Ops: []api.Op{{Write: true, Value: 5}, {Write: true, Value: 5}}}),
		{{Commit: 2, Ops: []api.Op{{}}}, {Begin: 1, Commit: 3, Ops: []api.Op{{}}}},
		{{Begin: 2, Commit: 3, Ops: []api.Op{{}}}, {Begin: 0, Commit: 1, Ops: []api.Op{{}}}},
	}
}

// What may not be isn't mended by names by which it might be.
func TestP21_1Wrong(t *testing.T) {
	maps := []Map{
		{}, {Order: []int{0}}, {Order: []int{0, 1}}, {Order: []int{1, 0}}, {Keys: map[int]int{64: 1, -1: 1}}, {Sessions: map[int]int{64: 1, -1: 1}},
		{Values: map[int]int{-1: 1, 0: 1}}, {Stamps: map[int]int{-1: 0, most + 1: 9}}, {Stamps: map[int]int{2: 0, 0: 2, 1: 3, 3: 4}},
	}
	for i, h := range wrong() {
		for _, m := range maps {
			if x, ok := Apply(h, m); ok || len(x) != 0 || history.Check(h) == api.OK {
				t.Error("Apply", i, m, x, ok)
			}
		}
	}
}

// Of no transactions there is nothing to name, and no Order but the empty one.
func TestP21_1Empty(t *testing.T) {
	for _, h := range [][]api.Txn{nil, {}} {
		for _, m := range []Map{{}, {Keys: map[int]int{0: 1, 1: 1, 2: 64}, Sessions: map[int]int{0: -1, 1: -1}, Values: map[int]int{1: 0, 2: 0}, Stamps: map[int]int{0: 5, 1: 4}, Order: []int{}}} {
			if x, ok := Apply(h, m); !ok || len(x) != 0 {
				t.Error("Apply", m, x, ok)
			}
		}
		for _, row := range [][]int{{0}, {-1}, {1}, {0, 1}} {
			if x, ok := Apply(h, Map{Order: row}); ok || len(x) != 0 {
				t.Error("Apply", row, x, ok)
			}
		}
	}
}

// mixed: names of a history that keep what it is, or some of them, or some that are spoilt.
func mixed(m *sample.Mixed, h []api.Txn) Map {
	var n Map
	n.Keys, n.Sessions, n.Values, n.Stamps, n.Order = m.Names(h)
	n.Values[0] = 1 + m.Next(3)
	names, parts := []map[int]int{n.Keys, n.Sessions, n.Values, n.Stamps}, all(h)
	for kind := range names {
		switch m.Next(9) {
		case 0:
			clear(names[kind])
		case 1:
			maps.DeleteFunc(names[kind], func(own, _ int) bool { return own%3 == 0 })
		case 2:
			if l := parts[kind]; len(l) > 0 {
				names[kind][l[m.Next(len(l))]] += m.Next(7) - 3
			}
		}
	}
	switch m.Next(6) {
	case 0:
		n.Order = nil
	case 1:
		for k := range n.Order {
			at := m.Next(len(n.Order))
			n.Order[k], n.Order[at] = n.Order[at], n.Order[k]
		}
	case 2:
		if len(n.Order) > 0 {
			n.Order[m.Next(len(n.Order))] += m.Next(3) - 1
		}
	}
	return n
}

func TestP21_1OfMixed(t *testing.T) {
	m := sample.Mixed(1)
	yes, no := 0, 0
	for i := range 6000 {
		h := m.History(i%7, 1+m.Next(4))
		n := mixed(&m, h)
		want, ok := wanted(h, n)
		if x, took := Apply(h, n); took != ok || !history.Same(x, want) {
			t.Fatalf("Apply of %v to %q = %q, %v, not %q, %v", n, script.Print(h), script.Print(x), took, script.Print(want), ok)
		}
		if ok && len(h) > 2 {
			yes++
		} else if len(h) > 2 {
			no++
		}
	}
	if yes < 1000 || no < 1000 {
		t.Error("the mixed ones are too much alike", yes, no)
	}
}

// As much as there may be of all.
func TestP21_1Of64(t *testing.T) {
	m := sample.Mixed(2)
	wide := sample.Apart(64)
	for i := range wide {
		for k := range 15 {
			wide[i].Ops = append(wide[i].Ops, api.Op{Write: k%2 == 0, Key: (i + k) % 64, Value: (10000 + 64*k + i) * ((k + 1) % 2)})
		}
	}
	for range 40 {
		for _, h := range [][]api.Txn{wide, m.History(64, 3), sample.Chained(m.Row(64))} {
			var n Map
			n.Keys, n.Sessions, n.Values, n.Stamps, n.Order = m.Names(h)
			want, ok := wanted(h, n)
			if x, took := Apply(h, n); !ok || !took || !history.Same(x, want) {
				t.Fatalf("Apply to %d = %d, %v, not %v", len(h), len(x), took, ok)
			}
		}
	}
}

// Names are of no matter: by whichever ones a history is accepted by the same levels.
func TestP21_2SameLevels(t *testing.T) {
	m := sample.Mixed(3)
	var accepted [13]int
	for i := range 900 {
		h := m.History(i%7, 1+m.Next(4))
		if i%50 == 0 {
			h, _, _ = m.Right(9, 3)
		}
		n := mixed(&m, h)
		x, ok := Apply(h, n)
		if !ok {
			continue
		}
		v, e := vector.Of(sample.Follow(t, h), fuel.Most)
		w, f := vector.Of(sample.Follow(t, x), fuel.Most)
		if e != api.OK || f != api.OK || v.Row != w.Row {
			t.Fatalf("%q is accepted by %v, %q by %v", script.Print(h), v.Row, script.Print(x), w.Row)
		}
		many := 0
		for _, yes := range v.Row {
			if yes {
				many++
			}
		}
		accepted[many]++
	}
	if accepted[0] < 20 || accepted[12] < 20 || 900-accepted[0]-accepted[12] < 100 {
		t.Error("the mixed ones are too much alike", accepted)
	}
}

// And by the names of what Apply answers it is gone back to the history.
func TestP21_1Back(t *testing.T) {
	m := sample.Mixed(4)
	for i := range 500 {
		h := m.History(i%9, 1+m.Next(4))
		var n Map
		n.Keys, n.Sessions, n.Values, n.Stamps, n.Order = m.Names(h)
		x, ok := Apply(h, n)
		var back Map
		back.Keys, back.Sessions, back.Values, back.Stamps = turned(n.Keys), turned(n.Sessions), turned(n.Values), turned(n.Stamps)
		back.Order = make([]int, len(h))
		for k, i := range n.Order {
			back.Order[i] = k
		}
		if y, again := Apply(x, back); !ok || !again || !history.Same(y, h) {
			t.Fatalf("Apply of %v to %q = %q, %v, and back %q, %v", n, script.Print(h), script.Print(x), ok, script.Print(y), again)
		}
	}
}

// turned: what has each name.
func turned(names map[int]int) map[int]int {
	of := map[int]int{}
	for own, name := range names {
		of[name] = own
	}
	return of
}

// sameMap: whether two Maps are the same.
func sameMap(a, b Map) bool {
	return maps.Equal(a.Keys, b.Keys) && maps.Equal(a.Sessions, b.Sessions) && maps.Equal(a.Values, b.Values) && maps.Equal(a.Stamps, b.Stamps) && slices.Equal(a.Order, b.Order)
}

// P2: what is handed in stays as it was, its spare room too; the same is answered again; and what is answered is apart.
func TestP2Apart(t *testing.T) {
	m := sample.Mixed(5)
	for i := range 600 {
		h := m.History(1+i%6, 1+m.Next(4))
		n := mixed(&m, h)
		if i%3 == 0 {
			n = Map{}
		}
		room := append(slices.Clone(n.Order), 90, 91, 92, 93, 94, 95, 96)
		kept := slices.Clone(room)
		n.Order = room[:len(n.Order)]
		was, names := history.Copy(h), Map{maps.Clone(n.Keys), maps.Clone(n.Sessions), maps.Clone(n.Values), maps.Clone(n.Stamps), slices.Clone(n.Order)}
		want, ok := Apply(h, n)
		x, _ := Apply(h, n)
		for k := range x {
			_ = append(x[k].Ops, sample.Write(9, 9), sample.Write(9, 9), sample.Write(9, 9))
			clear(x[k].Ops)
			for j := range x {
				if j > k && !slices.Equal(x[j].Ops, want[j].Ops) {
					t.Fatal("two lists of one answer share memory")
				}
			}
		}
		_ = append(x, make([]api.Txn, 3)...)
		clear(x)
		if y, again := Apply(h, n); again != ok || !history.Same(y, want) {
			t.Fatal("another answer", y, again, want, ok)
		}
		if !history.Same(h, was) || !sameMap(n, names) || !slices.Equal(room, kept) {
			t.Fatal("what was handed in is changed", h, n, room)
		}
	}
}

// Operations of two transactions that share memory are apart in what is answered.
func TestP2Shared(t *testing.T) {
	ops := []api.Op{{Key: 1}, {Key: 2}, {Key: 3}}
	h := []api.Txn{{Begin: 0, Commit: 2, Ops: ops[:2]}, {Session: 1, Begin: 1, Commit: 3, Ops: ops[:2]}}
	x, ok := Apply(h, Map{})
	if !ok || !history.Same(x, h) {
		t.Fatal("Apply", x, ok)
	}
	x[0].Ops[0].Key = 50
	if h[0].Ops[0].Key != 1 || x[1].Ops[0].Key != 1 || ops[2].Key != 3 {
		t.Error("shared", h, x)
	}
}

// P1: every call ends without a panic, at numbers far out and at many of them.
func TestP1NoPanic(t *testing.T) {
	far := append(sample.Far(), 0, 1, 5, most, most+1)
	h := parsed(t, three)
	odd := append(wrong(), nil, h, sample.Apart(64), make([]api.Txn, 1<<12))
	for _, a := range far {
		odd = append(odd, []api.Txn{{Session: a, Begin: a, Commit: a + 1, Ops: []api.Op{{Key: a, Value: a}, {Write: true, Key: a, Value: a}}}})
	}
	var all []Map
	many := map[int]int{}
	for i := range 1 << 12 {
		many[i-100] = i % 7
	}
	all = append(all, Map{Keys: many}, Map{Sessions: many}, Map{Values: many}, Map{Stamps: many}, Map{Order: make([]int, 1<<16)})
	for _, a := range far {
		for _, b := range far {
			names := map[int]int{a: b, 0: a, 1: b, 5: a}
			all = append(all, Map{Keys: names}, Map{Sessions: names}, Map{Values: names}, Map{Stamps: names}, Map{Order: []int{a, b}}, Map{Order: []int{0, a, b}}, Map{names, names, names, names, []int{a}})
		}
	}
	for _, h := range odd {
		for _, m := range all {
			want, ok := wanted(h, m)
			if x, took := Apply(h, m); took != ok || !history.Same(x, want) {
				t.Fatal("Apply", h, m, x, took)
			}
		}
	}
	for _, a := range []int{math.MinInt, math.MaxInt} {
		if x, ok := Apply(h, Map{Order: []int{a, a, a}}); ok || len(x) != 0 {
			t.Error("Apply", a, x, ok)
		}
	}
	if _, e := order.Of(h); e != api.OK {
		t.Error("it was changed", h)
	}
}
