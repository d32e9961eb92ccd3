package canon

import (
	"slices"
	"testing"

	"burgage/api"
	"burgage/history"
	"burgage/rename"
	"burgage/sample"
	"burgage/script"
)

// most: the greatest value, and the greatest stamp, that may be.
const most = 2147483647

// parsed: the history of a text.
func parsed(t *testing.T, text string) []api.Txn {
	t.Helper()
	h, line, e := script.Parse(text)
	if e != api.OK {
		t.Fatal("the text is wrong", line, e)
	}
	return h
}

// at: how many unlike things come in a row ahead of the one that is asked for.
func at(row []int, own int) int {
	var ahead []int
	for _, one := range row[:slices.Index(row, own)] {
		if !slices.Contains(ahead, one) {
			ahead = append(ahead, one)
		}
	}
	return len(ahead)
}

// wanted: what Of is to answer, told thing by thing.
func wanted(h []api.Txn) []api.Txn {
	if history.Check(h) != api.OK {
		return nil
	}
	var row []api.Txn
	var stamps, sessions, keys, values []int
	for stamp := range h {
		stamps = append(stamps, h[stamp].Begin, h[stamp].Commit)
	}
	slices.Sort(stamps)
	for _, stamp := range stamps {
		for _, t := range h {
			if t.Begin == stamp {
				row = append(row, t)
			}
		}
	}
	values = append(values, 0)
	for _, t := range row {
		sessions = append(sessions, t.Session)
		for _, o := range t.Ops {
			keys, values = append(keys, o.Key), append(values, o.Value)
		}
	}
	var c []api.Txn
	for _, t := range row {
		x := api.Txn{Session: at(sessions, t.Session), Begin: at(stamps, t.Begin), Commit: at(stamps, t.Commit)}
		for _, o := range t.Ops {
			x.Ops = append(x.Ops, api.Op{Write: o.Write, Key: at(keys, o.Key), Value: at(values, o.Value)})
		}
		c = append(c, x)
	}
	return c
}

func TestP22_1Of(t *testing.T) {
	cases := []struct{ what, text, want string }{
		{"nothing", "", ""},
		{"the document's example", "txn 9 5 8\nw 3 7\n", "txn 0 0 1\nw 0 1\n"},
		{"a read of what is there at first", "txn 63 0 2147483647\nr 63 0\n", "txn 0 0 1\nr 0 0\n"},
		{"0 takes no number of a value", "txn 0 1 2\nr 5 0\nw 5 9\nr 4 0\nw 4 8\n", "txn 0 0 1\nr 0 0\nw 0 1\nr 1 0\nw 1 2\n"},
		{"0 only later", "txn 0 1 2\nw 5 9\nr 4 0\nw 4 8\n", "txn 0 0 1\nw 0 1\nr 1 0\nw 1 2\n"},
		{"as they begin, not as they come", "txn 7 20 40\nw 9 5\nr 3 0\ntxn 2 10 30\nr 9 5\nw 3 8\n", "txn 0 0 2\nr 0 1\nw 1 2\ntxn 1 1 3\nw 0 1\nr 1 0\n"},
		{"as they begin, not as they end", "txn 5 3 4\nw 0 7\ntxn 6 2 5\nw 0 6\n", "txn 0 0 3\nw 0 1\ntxn 1 1 2\nw 0 2\n"},
		{"a session that comes again", "txn 8 1 2\nr 0 0\ntxn 3 3 4\nr 0 0\ntxn 8 5 6\nr 0 0\ntxn 1 7 8\nr 0 0\n", "txn 0 0 1\nr 0 0\ntxn 1 2 3\nr 0 0\ntxn 0 4 5\nr 0 0\ntxn 2 6 7\nr 0 0\n"},
		{"a value that is read ahead of being written", "txn 0 1 2\nr 4 9\nw 6 3\nw 4 5\nw 4 9\n", "txn 0 0 1\nr 0 1\nw 1 2\nw 0 3\nw 0 1\n"},
		{"stamps far apart", "txn 0 0 1000\nr 0 0\ntxn 1 7 2147483647\nr 0 0\ntxn 2 1001 1002\nr 1 0\n", "txn 0 0 2\nr 0 0\ntxn 1 1 5\nr 0 0\ntxn 2 3 4\nr 1 0\n"},
		{"numbers that others had", "txn 1 1 3\nw 2 2\nw 1 3\nw 0 1\ntxn 0 0 2\nr 1 3\nr 0 1\n", "txn 0 0 2\nr 0 1\nr 1 2\ntxn 1 1 3\nw 2 3\nw 0 1\nw 1 2\n"},
	}
	for _, c := range cases {
		h := parsed(t, c.text)
		if got := script.Print(Of(h)); got != c.want || script.Print(wanted(h)) != c.want {
			t.Errorf("%s: Of = %q", c.what, got)
		}
	}
}

// becoming: the names by which a history becomes another one, whose transactions come as they begin.
func becoming(h, c []api.Txn) rename.Map {
	m := rename.Map{Keys: map[int]int{}, Sessions: map[int]int{}, Values: map[int]int{}, Stamps: map[int]int{}}
	for i := range h {
		m.Order = append(m.Order, i)
	}
	slices.SortFunc(m.Order, func(a, b int) int { return h[a].Begin - h[b].Begin })
	for k, i := range m.Order {
		m.Sessions[h[i].Session], m.Stamps[h[i].Begin], m.Stamps[h[i].Commit] = c[k].Session, c[k].Begin, c[k].Commit
		for n, o := range h[i].Ops {
			m.Keys[o.Key], m.Values[o.Value] = c[k].Ops[n].Key, c[k].Ops[n].Value
		}
	}
	return m
}

// renamed: the same history by other names.
func renamed(t *testing.T, m *sample.Mixed, h []api.Txn) []api.Txn {
	t.Helper()
	var n rename.Map
	n.Keys, n.Sessions, n.Values, n.Stamps, n.Order = m.Names(h)
	x, ok := rename.Apply(h, n)
	if !ok {
		t.Fatal("the names are wrong", n, h)
	}
	return x
}

// Mixed histories of few transactions and of many, by whatever names.
func TestP22_1OfMixed(t *testing.T) {
	m := sample.Mixed(1)
	for i := range 3000 {
		n := i % 7
		if i%60 == 0 {
			n = 64
		}
		h := renamed(t, &m, m.History(n, 1+m.Next(5)))
		c, want := Of(h), wanted(h)
		if !history.Same(c, want) || history.Check(c) != api.OK {
			t.Fatalf("Of %q = %q, not %q", script.Print(h), script.Print(c), script.Print(want))
		}
		if x, ok := rename.Apply(h, becoming(h, c)); !ok || !history.Same(x, c) {
			t.Fatalf("by its names %q is %q, not %q", script.Print(h), script.Print(x), script.Print(c))
		}
		x := renamed(t, &m, h)
		if !history.Same(Of(x), c) || !history.Same(Of(c), c) || !Same(h, x) || !Same(x, c) || !Is(c) || Is(h) != history.Same(h, c) || Is(x) != history.Same(x, c) {
			t.Fatalf("%q by other names: %q, of which Of = %q", script.Print(h), script.Print(x), script.Print(Of(x)))
		}
	}
}

// As much as there may be of all: sessions, stamps, keys and values.
func TestP22_1Of64(t *testing.T) {
	m := sample.Mixed(2)
	h := sample.Apart(64)
	for i := range h {
		for k := range 15 {
			h[i].Ops = append(h[i].Ops, api.Op{Write: true, Key: (i + k) % 64, Value: most - 64*k - i})
		}
	}
	if len(h) != 64 || history.Ops(h) != 1024 || history.Check(h) != api.OK {
		t.Fatal("the history is wrong")
	}
	for range 20 {
		x := renamed(t, &m, h)
		c := Of(x)
		last := c[63]
		if !history.Same(c, wanted(x)) || !Is(c) || Is(h) || !Same(h, c) || last.Session != 63 || last.Commit != 127 || last.Ops[15].Value != 1024 {
			t.Fatalf("Of %q = %q", script.Print(x), script.Print(c))
		}
	}
}

// wrong: histories that may not be, or are too large.
func wrong() [][]api.Txn {
	many, wide := sample.Apart(64), sample.Apart(33)
	many = append(many, api.Txn{Begin: 5000, Commit: 5001, Ops: []api.Op{{}}})
	for i := range wide {
		wide[i].Ops = make([]api.Op, 32)
	}
	one := func(t api.Txn) []api.Txn { return []api.Txn{t} }
	l := [][]api.Txn{
		make([]api.Txn, 1), make([]api.Txn, 3), many, wide,
		one(api.Txn{Commit: 1}),
		one(api.Txn{Session: 64, Commit: 1, Ops: []api.Op{{}}}),
		one(api.Txn{Begin: 2, Commit: 1, Ops: []api.Op{{}}}),
		one(api.Txn{Begin: 1, Commit: 1, Ops: []api.Op{{}}}),
		one(api.Txn{Commit: 1, Ops: []api.Op{{Value: 1}}}),
		one(api.Txn{Commit: 1, Ops: []api.Op{{Write: true, Value: 1}, {Key: 1, Value: 1}}}),
		one(api.Txn{Commit: 1, Ops: []api.Op{{Write: true, Value: 1}, {Write: true, Value: 1}}}),
		one(api.Txn{Commit: 1, Ops: []api.Op{{Write: true}}}),
		{{Commit: 2, Ops: []api.Op{{}}}, {Begin: 1, Commit: 3, Ops: []api.Op{{}}}},
		{{Begin: 2, Commit: 3, Ops: []api.Op{{}}}, {Begin: 0, Commit: 1, Ops: []api.Op{{}}}},
	}
	for _, n := range append(sample.Far(), most+1) {
		l = append(l, one(api.Txn{Session: n, Begin: n, Commit: n + 1, Ops: []api.Op{{Key: n, Value: n}, {Write: true, Key: n, Value: n}}}))
	}
	return l
}

// P22.1, P22.2: of what may not be, or is too large, there is none, and it is the same as nothing else, nor as itself.
func TestP22Wrong(t *testing.T) {
	good := parsed(t, "txn 0 0 1\nr 0 0\n")
	for i, a := range wrong() {
		if history.Check(a) == api.OK {
			t.Error("it may be", i)
		}
		if c := Of(a); len(c) != 0 || Is(a) {
			t.Error("Of", i, c, Is(a))
		}
		for _, b := range append(wrong(), good, nil, a) {
			if Same(a, b) || Same(b, a) {
				t.Error("Same", a, b)
			}
		}
	}
	if !Same(good, good) || !Is(good) || !Is(nil) || !Is([]api.Txn{}) || !Same(nil, []api.Txn{}) || !Same([]api.Txn{}, nil) || Same(nil, good) || Same(good, nil) || len(Of(nil)) != 0 || len(Of([]api.Txn{})) != 0 {
		t.Error("of what may be, or of nothing")
	}
}

// Each change of one thing of what is Of of itself: it isn't any more, and is the same as before, or isn't that either.
func TestP22_2Changed(t *testing.T) {
	const text = "txn 0 0 2\nr 0 0\nw 1 1\nw 0 2\ntxn 1 1 3\nr 1 1\nr 2 0\nw 1 3\ntxn 0 4 5\nr 0 2\n"
	cases := []struct {
		what     string
		change   func(h []api.Txn)
		is, same bool
	}{
		{"nothing", func(h []api.Txn) {}, true, true},
		{"a session's number", func(h []api.Txn) { h[1].Session = 2 }, false, true},
		{"both sessions' numbers", func(h []api.Txn) { h[0].Session, h[1].Session, h[2].Session = 1, 0, 1 }, false, true},
		{"a session of its own", func(h []api.Txn) { h[2].Session = 2 }, true, false},
		{"another session", func(h []api.Txn) { h[2].Session = 1 }, true, false},
		{"a stamp, as great among the others", func(h []api.Txn) { h[2].Commit = 7 }, false, true},
		{"all stamps, as great", func(h []api.Txn) {
			for i := range h {
				h[i].Begin, h[i].Commit = h[i].Begin+1, h[i].Commit+1
			}
		}, false, true},
		{"ends of two", func(h []api.Txn) { h[0].Commit, h[1].Commit = 3, 2 }, true, false},
		{"whether two are at once", func(h []api.Txn) { h[1].Commit, h[2].Begin = 4, 3 }, true, false},
		{"the row, of two sessions", func(h []api.Txn) { h[0], h[1] = h[1], h[0] }, false, true},
		{"a key that nobody had", func(h []api.Txn) { h[1].Ops[1].Key = 3 }, false, true},
		{"another key that is there", func(h []api.Txn) { h[1].Ops[1].Key = 0 }, true, false},
		{"two keys' names", func(h []api.Txn) {
			for i := range h {
				for k, o := range h[i].Ops {
					h[i].Ops[k].Key = [...]int{1, 0, 2}[o.Key]
				}
			}
		}, false, true},
		{"a value's name", func(h []api.Txn) { h[1].Ops[2].Value = 4 }, false, true},
		{"two values' names", func(h []api.Txn) {
			for i := range h {
				for k, o := range h[i].Ops {
					h[i].Ops[k].Value = [...]int{0, 2, 1, 3}[o.Value]
				}
			}
		}, false, true},
		{"a read of what is there at first", func(h []api.Txn) { h[2].Ops[0].Value = 0 }, true, false},
		{"the operations' order, by which keys and values come otherwise", func(h []api.Txn) { slices.Reverse(h[0].Ops) }, false, false},
		{"a read, by a write of what is new", func(h []api.Txn) { h[2].Ops[0] = api.Op{Write: true, Key: 0, Value: 4} }, true, false},
		{"an operation more", func(h []api.Txn) { h[2].Ops = append(h[2].Ops, api.Op{}) }, true, false},
		{"an operation less", func(h []api.Txn) { h[1].Ops = h[1].Ops[:2] }, true, false},
	}
	good := parsed(t, text)
	for _, c := range cases {
		h := parsed(t, text)
		c.change(h)
		if history.Check(h) != api.OK {
			t.Errorf("%s: it may not be", c.what)
		}
		if Is(h) != c.is || Same(h, good) != c.same || Same(good, h) != c.same {
			t.Errorf("%s: Is %v, Same %v, %v", c.what, Is(h), Same(h, good), Same(good, h))
		}
	}
	if Same(good, good[:2]) || Same(good[:2], good) || !Is(good[:2]) {
		t.Error("one transaction less")
	}
}

// pairs: of each thing of a kind what it is in another history; false: it is two, or two are it.
type pairs struct{ there, back map[int]int }

func (p pairs) fit(a, b int) bool {
	x, ok := p.there[a]
	y, and := p.back[b]
	p.there[a], p.back[b] = b, a
	return (!ok || x == b) && (!and || y == a)
}

// match: whether two histories are the same but for their names, told by holding them against each other as they begin, thing by thing.
func match(a, b []api.Txn) bool {
	if len(a) != len(b) {
		return false
	}
	rising := func(x, y api.Txn) int { return x.Begin - y.Begin }
	a, b = slices.SortedFunc(slices.Values(a), rising), slices.SortedFunc(slices.Values(b), rising)
	var kinds [3]pairs
	for k := range kinds {
		kinds[k] = pairs{map[int]int{}, map[int]int{}}
	}
	kinds[2].fit(0, 0)
	for i := range a {
		if len(a[i].Ops) != len(b[i].Ops) || !kinds[0].fit(a[i].Session, b[i].Session) {
			return false
		}
		for j := range a {
			if (a[i].Begin < a[j].Commit) != (b[i].Begin < b[j].Commit) || (a[i].Commit < a[j].Commit) != (b[i].Commit < b[j].Commit) {
				return false
			}
		}
		for k, o := range a[i].Ops {
			p := b[i].Ops[k]
			if o.Write != p.Write || !kinds[1].fit(o.Key, p.Key) || !kinds[2].fit(o.Value, p.Value) {
				return false
			}
		}
	}
	return true
}

// small: all histories of at most two transactions of one operation each, of few names, by stamps from 0 on; and of one transaction of at most three.
func small() [][]api.Txn {
	var ops []api.Op
	for key := range 2 {
		for value := range 3 {
			ops = append(ops, api.Op{Key: key, Value: value}, api.Op{Write: true, Key: key, Value: value})
		}
	}
	all := [][]api.Txn{nil}
	for _, o := range ops {
		for s := range 2 {
			all = append(all, []api.Txn{{Session: s, Begin: s, Commit: s + 1, Ops: []api.Op{o}}})
		}
		for _, p := range ops {
			all = append(all, []api.Txn{{Commit: 1, Ops: []api.Op{o, p}}})
			for _, q := range ops {
				all = append(all, []api.Txn{{Commit: 1, Ops: []api.Op{o, p, q}}})
			}
			for _, row := range sample.Rows(4) {
				for s := range 4 {
					all = append(all, []api.Txn{{Session: s % 2, Begin: row[0], Commit: row[1], Ops: []api.Op{o}}, {Session: s / 2, Begin: row[2], Commit: row[3], Ops: []api.Op{p}}})
				}
			}
		}
	}
	return slices.DeleteFunc(all, func(h []api.Txn) bool { return history.Check(h) != api.OK })
}

// Of small histories there is just one of all that are the same that is Of of itself, and two are the same just where one fits the other.
func TestP22_2Small(t *testing.T) {
	var classes [][]api.Txn
	all := small()
	is := 0
	for i, h := range all {
		c := Of(h)
		if !history.Same(c, wanted(h)) || !match(h, c) {
			t.Fatalf("Of %q = %q", script.Print(h), script.Print(c))
		}
		if !slices.ContainsFunc(classes, func(x []api.Txn) bool { return match(x, h) }) {
			classes = append(classes, h)
		}
		if Is(h) {
			is++
		}
		for k := i % 11; k < len(all); k += 11 {
			if got := Same(h, all[k]); got != match(h, all[k]) {
				t.Fatalf("Same(%q, %q) = %v", script.Print(h), script.Print(all[k]), got)
			}
		}
	}
	if is != len(classes) || len(classes) < 50 || len(all) < 500 {
		t.Error("Is", is, "of", len(classes), "of", len(all))
	}
}

// Mixed histories against each other, of which one has been changed a bit.
func TestP22_2SameOfMixed(t *testing.T) {
	m := sample.Mixed(3)
	yes, no := 0, 0
	for i := range 6000 {
		h := m.History(1+i%5, 1+m.Next(4))
		x := renamed(t, &m, h)
		i, n := m.Next(len(x)), m.Next(5)-2
		k := m.Next(len(x[i].Ops))
		switch m.Next(9) {
		case 0:
			x[i].Session += n
		case 1:
			x[i].Begin += n
		case 2:
			x[i].Commit += n
		case 3:
			x[i].Ops[k].Key += n
		case 4:
			x[i].Ops[k].Value += n
		case 5:
			x[i].Ops[k].Value = 0
		case 6:
			x[i].Ops[k], x[i].Ops[0] = x[i].Ops[0], x[i].Ops[k]
		case 7:
			x[i].Session = x[0].Session
		}
		if history.Check(x) != api.OK {
			if Same(h, x) || Same(x, h) || Is(x) || len(Of(x)) != 0 {
				t.Fatalf("of what may not be: %q", script.Print(x))
			}
			continue
		}
		want := match(h, x)
		if Same(h, x) != want || Same(x, h) != want || history.Same(Of(h), Of(x)) != want {
			t.Fatalf("Same of %q, %q = %v, %v, not %v", script.Print(h), script.Print(x), Same(h, x), Same(x, h), want)
		}
		if want {
			yes++
		} else {
			no++
		}
	}
	if yes < 1000 || no < 500 {
		t.Error("the mixed ones are too much alike", yes, no)
	}
}

// P2: what is handed in stays as it was, its spare room too; the same is answered again; and what is answered is apart.
func TestP2Apart(t *testing.T) {
	m := sample.Mixed(4)
	for i := range 600 {
		rooms := append(renamed(t, &m, m.History(1+i%6, 1+m.Next(4))), api.Txn{Session: 9}, api.Txn{Session: 8})
		h := rooms[:len(rooms)-2]
		for k := range h {
			h[k].Ops = append(h[k].Ops, api.Op{Key: 9}, api.Op{Key: 8})[:len(h[k].Ops)]
		}
		whole := history.Copy(rooms)
		for k := range h {
			whole[k].Ops = slices.Clone(h[k].Ops[:len(h[k].Ops)+2])
		}
		want, c := Of(h), Of(h)
		if i%4 == 0 {
			// Of what is Of of itself, too.
			h = Of(h)
			c = Of(h)
		}
		for k := range c {
			_ = append(c[k].Ops, sample.Write(9, 9), sample.Write(9, 9), sample.Write(9, 9))
			clear(c[k].Ops)
			for j := range c {
				if j > k && !slices.Equal(c[j].Ops, want[j].Ops) {
					t.Fatal("two lists of one answer share memory")
				}
			}
		}
		_ = append(c, make([]api.Txn, 3)...)
		clear(c)
		if again := Of(h); !history.Same(again, want) || !Same(h, want) || !Is(want) {
			t.Fatal("another answer", again, want)
		}
		for k := range h {
			if i%4 != 0 {
				h[k].Ops = h[k].Ops[:len(h[k].Ops)+2]
			}
		}
		if i%4 != 0 && !history.Same(rooms, whole) {
			t.Fatal("what was handed in is changed", rooms, whole)
		}
	}
}

// Operations of two transactions that share memory are apart in what is answered.
func TestP2Shared(t *testing.T) {
	ops := []api.Op{{Key: 7}, {Key: 5}, {Key: 3}}
	h := []api.Txn{{Begin: 0, Commit: 2, Ops: ops[:2]}, {Session: 1, Begin: 1, Commit: 3, Ops: ops[:2]}, {Session: 2, Begin: 4, Commit: 5, Ops: ops[1:]}}
	c := Of(h)
	if script.Print(c) != "txn 0 0 2\nr 0 0\nr 1 0\ntxn 1 1 3\nr 0 0\nr 1 0\ntxn 2 4 5\nr 1 0\nr 2 0\n" || !slices.Equal(ops, []api.Op{{Key: 7}, {Key: 5}, {Key: 3}}) {
		t.Fatal("Of", c, ops)
	}
	c[0].Ops[1].Key, c[1].Ops[0].Key = 50, 51
	if c[1].Ops[1].Key != 1 || c[2].Ops[0].Key != 1 || c[0].Ops[0].Key != 0 {
		t.Error("shared", c)
	}
}

// P1: every call ends without a panic, at numbers far out and at many of them.
func TestP1NoPanic(t *testing.T) {
	all := append(wrong(), nil, []api.Txn{}, sample.Apart(64), make([]api.Txn, 1<<16), []api.Txn{{Commit: 1, Ops: make([]api.Op, 1<<16)}})
	for _, a := range all {
		if c := Of(a); !history.Same(c, wanted(a)) || Is(a) != (history.Check(a) == api.OK && history.Same(a, c)) {
			t.Error("Of", len(a))
		}
		for _, b := range all {
			if Same(a, b) != (history.Check(a) == api.OK && history.Check(b) == api.OK && match(a, b)) {
				t.Error("Same", len(a), len(b))
			}
		}
	}
}
