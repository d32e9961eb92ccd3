package separate

import (
	"math"
	"slices"
	"testing"

	"burgage/api"
	"burgage/brute"
	"burgage/canon"
	"burgage/catalogue"
	"burgage/enum"
	"burgage/fuel"
	"burgage/history"
	"burgage/level"
	"burgage/order"
	"burgage/sample"
	"burgage/script"
	"burgage/search"
	"burgage/table"
	"burgage/vector"
)

// some: all levels, and numbers that are none.
var some = []api.Level{-1, level.ReadAtomic, level.SessionAtomic, level.Causal, level.Update, level.PrefixLevel, level.Parallel, level.Snapshot, level.Serial, level.TimeCausal, level.TimePrefix, level.TimeSnapshot, level.Strict, 12}

// accepts: is a history accepted by a level, by all orders?
func accepts(o *order.Orders, l api.Level) bool {
	_, accepted, _ := brute.Decide(o, l)
	return accepted
}

// spends: how much it takes to decide a level.
func spends(o *order.Orders, l api.Level) int {
	m := fuel.New(fuel.Most)
	search.Decide(o, l, m)
	return m.Used()
}

// parts: holds Parts by Meters of all kinds against what is to be answered, and against what both levels take at most; how much it takes.
func parts(t *testing.T, h []api.Txn, a, b api.Level, want bool, most int) int {
	t.Helper()
	m := fuel.New(fuel.Most)
	yes, e := Parts(h, a, b, m)
	used := m.Used()
	if yes != want || e != api.OK || used > most {
		t.Fatalf("Parts(%q, %d, %d) = %v, %v, not %v, of %d, not at most %d", script.Print(h), a, b, yes, e, want, used, most)
	}
	for more := range 3 {
		m := fuel.New(used + more + 1)
		m.Spend()
		if yes, e := Parts(h, a, b, m); yes != want || e != api.OK || m.Left() != more {
			t.Fatalf("Parts(%q, %d, %d) with %d more = %v, %v", script.Print(h), a, b, more, yes, e)
		}
	}
	for less := 1; less <= used; less += 1 + less/9 {
		m := fuel.New(used - less)
		if yes, e := Parts(h, a, b, m); yes || e != api.ErrFuel || m.Left() != 0 {
			t.Fatalf("Parts(%q, %d, %d) with %d less = %v, %v, left %d", script.Print(h), a, b, less, yes, e, m.Left())
		}
	}
	return used
}

// Mixed histories, and any two levels, or what is none, against all orders.
func TestP24_1OfMixed(t *testing.T) {
	m := sample.Mixed(1)
	var parted [14][14]int
	for i := range 150 {
		h := m.History(i%6, 1+m.Next(4))
		o := sample.Follow(t, h)
		var yes [14]bool
		var work [14]int
		for k, l := range some {
			yes[k], work[k] = accepts(o, l), spends(o, l)
		}
		for k, a := range some {
			for j, b := range some {
				want := yes[k] && !yes[j]
				parts(t, h, a, b, want, work[k]+work[j])
				if want {
					parted[k][j]++
				}
			}
		}
	}
	pairs := 0
	for k, a := range some {
		for j, b := range some {
			if parted[k][j] > 0 {
				pairs++
			}
			if may := level.Is(a) && !table.Implies(a, b); !may && parted[k][j] > 0 {
				t.Error("one parts what nothing may", a, b, parted[k][j])
			}
		}
	}
	if pairs < 90 {
		t.Error("the mixed ones are too much alike", pairs)
	}
}

// The catalogue's histories, and one that isn't Sound.
func TestP24_1OfCatalogue(t *testing.T) {
	for _, entry := range catalogue.All() {
		for _, a := range some {
			for _, b := range some {
				keeps := func(l api.Level) bool { return level.Is(l) && level.Closed(level.Asks(l))&entry.Missing == 0 }
				parts(t, entry.History, a, b, keeps(a) && !keeps(b), math.MaxInt)
			}
		}
	}
	h, _, _ := script.Parse("txn 0 0 1\nw 0 1\nw 0 2\ntxn 1 2 3\nr 0 1\n")
	for _, a := range some {
		for _, b := range some {
			parts(t, h, a, b, false, 0)
			parts(t, nil, a, b, level.Is(a) && !level.Is(b), 0)
			parts(t, []api.Txn{}, a, b, level.Is(a) && !level.Is(b), 0)
		}
	}
}

// Errors come in their order, ahead of levels that are none, and leave the Meter as it was.
func TestP24_1Errors(t *testing.T) {
	large, wide := append(sample.Apart(64), api.Txn{}), sample.Apart(33)
	for i := range wide {
		wide[i].Ops = make([]api.Op, 32)
	}
	op := []api.Op{{}}
	cases := []struct {
		h    []api.Txn
		want api.Errno
	}{
		{large, api.ErrLarge},
		{wide, api.ErrLarge},
		{[]api.Txn{{Commit: 1, Ops: make([]api.Op, 1025)}}, api.ErrLarge},
		{make([]api.Txn, 1), api.ErrForm},
		{[]api.Txn{{Commit: 1}}, api.ErrForm},
		{[]api.Txn{{Session: 64, Commit: 1, Ops: op}}, api.ErrForm},
		{[]api.Txn{{Commit: 1, Ops: []api.Op{{Value: 1}}}}, api.ErrForm},
		{[]api.Txn{{Commit: 1, Ops: op}, {Session: 1, Begin: 1, Commit: 2, Ops: op}}, api.ErrForm},
		{[]api.Txn{{Commit: 2, Ops: op}, {Begin: 1, Commit: 3, Ops: op}}, api.ErrForm},
	}
	for _, c := range cases {
		for _, much := range []int{0, 1, 9, fuel.Most} {
			for _, l := range some {
				m := fuel.New(much)
				yes, e := Parts(c.h, l, 3, m)
				no, f := Parts(c.h, 3, l, m)
				if yes || no || e != c.want || f != c.want || m.Used() != 0 || m.Left() != much {
					t.Errorf("Parts: %v, %v, %v, %v, not %v, used %d", yes, no, e, f, c.want, m.Used())
				}
			}
		}
	}
	h, _, _ := script.Parse("txn 0 0 1\nw 0 1\ntxn 1 2 3\nr 0 0\n")
	for less := range 5 {
		m := fuel.New(less)
		if yes, e := Parts(h, level.Serial, level.Strict, m); less < 4 && (yes || e != api.ErrFuel || m.Left() != 0) {
			t.Error("Parts with little", less, yes, e)
		}
	}
}

// judged is a history that is handed over, and which levels accept it.
type judged struct {
	h   []api.Txn
	row table.Row
}

// gone: all histories within bounds, by rising numbers of transactions, and of operations, as they are handed over.
func gone(t *testing.T, s enum.Bounds) []judged {
	t.Helper()
	var l []judged
	for txns := range s.Txns + 1 {
		for ops := range s.Ops + 1 {
			for h := range enum.Each(s, txns, ops) {
				v, e := vector.Of(sample.Follow(t, h), fuel.Most)
				if e != api.OK {
					t.Fatal("no row", e)
				}
				l = append(l, judged{h, v.Row})
			}
		}
	}
	return l
}

// firstOf: which of these is the first one that a accepts, and b doesn't; -1: none is.
func firstOf(l []judged, a, b api.Level) int {
	return slices.IndexFunc(l, func(j judged) bool {
		return level.Is(a) && j.row[a] && !(level.Is(b) && j.row[b])
	})
}

// within: is a history within bounds?
func within(h []api.Txn, s enum.Bounds) bool {
	sessions, keys := map[int]bool{}, map[int]bool{}
	for _, t := range h {
		sessions[t.Session] = true
		for _, o := range t.Ops {
			keys[o.Key] = true
		}
	}
	return len(h) <= s.Txns && history.Ops(h) <= s.Ops && len(sessions) <= s.Sessions && len(keys) <= s.Keys
}

// All pairs of levels, of some bounds: the least there is, and none just where there is none.
func TestP24_2All(t *testing.T) {
	found, none := 0, 0
	for _, s := range []enum.Bounds{{}, {Sessions: 1, Txns: 2, Ops: 3, Keys: 1}, {Sessions: 2, Txns: 2, Ops: 2, Keys: 1}, {Sessions: 1, Txns: 3, Ops: 3, Keys: 2}, {Sessions: 2, Txns: 2, Ops: 4, Keys: 1}, {Sessions: 64, Txns: 64, Ops: 2, Keys: 64}, {Sessions: 3, Txns: 1, Ops: 3, Keys: 3}} {
		l := gone(t, enum.Bounds{Sessions: s.Sessions, Txns: min(s.Txns, s.Ops), Ops: s.Ops, Keys: s.Keys})
		for _, a := range some {
			for _, b := range some {
				h, yes, e := Find(a, b, s, fuel.Most)
				at := firstOf(l, a, b)
				if e != api.OK || yes != (at >= 0) || !yes && len(h) != 0 {
					t.Fatalf("Find(%d, %d, %v) = %q, %v, %v", a, b, s, script.Print(h), yes, e)
				}
				if !yes {
					none++
					continue
				}
				found++
				if !canon.Is(h) || !within(h, s) || len(h) != len(l[at].h) || history.Ops(h) != history.Ops(l[at].h) {
					t.Fatalf("Find(%d, %d, %v) = %q, not as small as %q", a, b, s, script.Print(h), script.Print(l[at].h))
				}
				o := sample.Follow(t, h)
				if !accepts(o, a) || level.Is(b) && accepts(o, b) {
					t.Fatalf("Find(%d, %d, %v) = %q, that doesn't part them", a, b, s, script.Print(h))
				}
			}
		}
	}
	if found < 200 || none < 300 {
		t.Error("too much alike", found, none)
	}
}

// Of each thing that may be missing the smallest history, by hand; and what there isn't by bounds one less.
func TestP24_2ByHand(t *testing.T) {
	cases := []struct {
		what                      string
		a, b                      api.Level
		s                         enum.Bounds
		txns, ops, sessions, keys int
	}{
		{"own write unseen", level.ReadAtomic, level.SessionAtomic, enum.Bounds{Sessions: 2, Txns: 2, Ops: 3, Keys: 2}, 2, 2, 1, 1},
		{"cause unseen", level.SessionAtomic, level.Causal, enum.Bounds{Sessions: 2, Txns: 3, Ops: 3, Keys: 1}, 3, 3, 2, 1},
		{"long fork", level.Causal, level.PrefixLevel, enum.Bounds{Sessions: 2, Txns: 4, Ops: 4, Keys: 2}, 4, 4, 2, 2},
		{"long fork of parallel", level.Parallel, level.Snapshot, enum.Bounds{Sessions: 2, Txns: 4, Ops: 4, Keys: 2}, 4, 4, 2, 2},
		{"lost update", level.SessionAtomic, level.Update, enum.Bounds{Sessions: 2, Txns: 2, Ops: 4, Keys: 1}, 2, 4, 2, 1},
		{"write skew", level.Snapshot, level.Serial, enum.Bounds{Sessions: 2, Txns: 2, Ops: 4, Keys: 2}, 2, 4, 2, 2},
		{"stale read", level.Serial, level.Strict, enum.Bounds{Sessions: 2, Txns: 2, Ops: 4, Keys: 2}, 2, 2, 2, 1},
	}
	for _, c := range cases {
		h, found, e := Find(c.a, c.b, c.s, fuel.Most)
		least := enum.Bounds{Sessions: c.sessions, Txns: c.txns, Ops: c.ops, Keys: c.keys}
		if e != api.OK || !found || !canon.Is(h) || len(h) != c.txns || history.Ops(h) != c.ops || !within(h, least) {
			t.Errorf("%s: %q, %v, %v", c.what, script.Print(h), found, e)
		}
		for i, less := range []enum.Bounds{{Sessions: 1}, {Txns: 1}, {Ops: 1}, {Keys: 1}} {
			s := enum.Bounds{Sessions: least.Sessions - less.Sessions, Txns: least.Txns - less.Txns, Ops: least.Ops - less.Ops, Keys: least.Keys - less.Keys}
			if h, found, e := Find(c.a, c.b, s, fuel.Most); found || e != api.OK || len(h) != 0 {
				t.Errorf("%s, with one less of %d: %q, %v, %v", c.what, i, script.Print(h), found, e)
			}
		}
	}
	h, _, _ := Find(level.SessionAtomic, level.Update, enum.Bounds{Sessions: 2, Txns: 2, Ops: 4, Keys: 1}, fuel.Most)
	for _, x := range h {
		if len(x.Ops) != 2 || x.Ops[0] != (api.Op{}) || !x.Ops[1].Write {
			t.Errorf("it is no lost update: %q", script.Print(h))
		}
	}
}

// How much it takes: one of each history up to the one that is answered, and what Parts takes of these, at most; whoever has as much as lasts, or more, is answered the same, whoever has less nothing.
func TestP24_2Fuel(t *testing.T) {
	for _, s := range []enum.Bounds{{}, {Sessions: 1, Txns: 1, Ops: 2, Keys: 1}, {Sessions: 2, Txns: 2, Ops: 3, Keys: 1}, {Sessions: 2, Txns: 3, Ops: 3, Keys: 1}} {
		l := gone(t, s)
		step := 1 + len(l)/25
		for i := 0; i < len(some)*len(some); i += step {
			lasts(t, some[i/len(some)], some[i%len(some)], s, l)
		}
	}
}

// lasts: holds Find by muches of all kinds against how many histories there are up to the answer, and what Parts takes of them.
func lasts(t *testing.T, a, b api.Level, s enum.Bounds, l []judged) {
	t.Helper()
	up := l
	if at := firstOf(l, a, b); at >= 0 {
		up = l[:at+1]
	}
	m := fuel.New(fuel.Most)
	for _, j := range up {
		if yes, e := Parts(j.h, a, b, m); e != api.OK || yes != (firstOf([]judged{j}, a, b) == 0) {
			t.Fatal("Parts", yes, e)
		}
	}
	enough := len(up) + m.Used()
	want, found, e := Find(a, b, s, fuel.Most)
	if e != api.OK || found && !history.Same(want, up[len(up)-1].h) {
		t.Fatalf("Find(%d, %d, %v) = %q, %v, %v", a, b, s, script.Print(want), found, e)
	}
	for _, much := range []int{enough, enough + 1, enough + 100, fuel.Most - 1, math.MaxInt} {
		if h, yes, e := Find(a, b, s, much); e != api.OK || yes != found || !history.Same(h, want) {
			t.Fatalf("Find(%d, %d, %v, %d) = %q, %v, %v, not %q", a, b, s, much, script.Print(h), yes, e, script.Print(want))
		}
	}
	lasted := false
	for much := -1; much < enough; much += 1 + (enough-much)/7 {
		h, yes, e := Find(a, b, s, much)
		if e == api.OK {
			lasted = true
		}
		if lasted && (e != api.OK || yes != found || !history.Same(h, want)) || !lasted && (e != api.ErrFuel || yes || len(h) != 0) || much < len(up) && e == api.OK {
			t.Fatalf("Find(%d, %d, %v, %d of %d) = %q, %v, %v", a, b, s, much, enough, script.Print(h), yes, e)
		}
	}
}

// Where the last one of all is the one that parts them, and the fuel runs out at it, that is told, too: there is not none.
func TestP24_2Last(t *testing.T) {
	var h []api.Txn
	for _, entry := range catalogue.All() {
		if entry.Missing == level.Total {
			h = entry.History
		}
	}
	last := func(yield func(h []api.Txn) bool) { _ = yield(nil) && yield(h) }
	m := fuel.New(fuel.Most)
	got, found, e := first(last, level.Snapshot, level.Serial, m)
	if !history.Same(got, h) || !found || e != api.OK || m.Used() < 2 {
		t.Fatal("it isn't found", got, found, e)
	}
	for much := range m.Used() {
		if got, found, e := first(last, level.Snapshot, level.Serial, fuel.New(much)); len(got) != 0 || found || e != api.ErrFuel {
			t.Error("with", much, "of", m.Used(), got, found, e)
		}
	}
	if got, found, e := first(last, level.Serial, level.Snapshot, m); len(got) != 0 || found || e != api.OK {
		t.Error("it is found", got, found, e)
	}
}

// Bounds below 0 count as 0: only the history without transactions is within them, or what has none of these.
func TestP24_2Below(t *testing.T) {
	for i := range 16 {
		s := enum.Bounds{Sessions: 2, Txns: 2, Ops: 2, Keys: 2}
		for k, one := range []*int{&s.Sessions, &s.Txns, &s.Ops, &s.Keys} {
			if i>>k&1 == 1 {
				*one = -1 - 7*k
			}
		}
		h, found, e := Find(level.Serial, level.Strict, s, fuel.Most)
		if e != api.OK || found != (i == 0) || (len(h) == 2) != found {
			t.Error("Find", s, h, found, e)
		}
		h, found, e = Find(level.Serial, 12, s, 1)
		if e != api.OK || !found || len(h) != 0 {
			t.Error("Find of no level", s, h, found, e)
		}
		h, found, e = Find(12, level.Serial, s, 1)
		if len(h) != 0 || found || i != 0 && e != api.OK || i == 0 && e != api.ErrFuel {
			t.Error("Find of no level", s, h, found, e)
		}
	}
}

// P2: what is handed in stays as it was, the same is answered again, and what is answered is apart.
func TestP2Apart(t *testing.T) {
	m := sample.Mixed(2)
	for range 100 {
		rooms := append(m.History(1+m.Next(5), 2), api.Txn{Session: 9}, api.Txn{Session: 8})
		h := rooms[:len(rooms)-2]
		for i := range h {
			h[i].Ops = append(h[i].Ops, api.Op{Key: 9}, api.Op{Key: 8})[:len(h[i].Ops)]
		}
		whole := history.Copy(rooms)
		for i := range h {
			whole[i].Ops = slices.Clone(h[i].Ops[:len(h[i].Ops)+2])
		}
		for _, b := range some {
			yes, e := Parts(h, level.Causal, b, fuel.New(fuel.Most))
			again, f := Parts(h, level.Causal, b, fuel.New(fuel.Most))
			if yes != again || e != f {
				t.Fatal("another answer")
			}
		}
		for i := range h {
			h[i].Ops = h[i].Ops[:len(h[i].Ops)+2]
		}
		if !history.Same(rooms, whole) {
			t.Fatal("what was handed in is changed", rooms, whole)
		}
	}
	s := enum.Bounds{Sessions: 2, Txns: 2, Ops: 4, Keys: 2}
	want, _, _ := Find(level.Snapshot, level.Serial, s, fuel.Most)
	text := script.Print(want)
	h, _, _ := Find(level.Snapshot, level.Serial, s, fuel.Most)
	for i := range h {
		clear(append(h[i].Ops, make([]api.Op, 4)...))
		clear(h[i].Ops)
		if i == 0 && !slices.Equal(h[1].Ops, want[1].Ops) {
			t.Error("two lists of one answer share memory")
		}
	}
	clear(append(h, make([]api.Txn, 4)...))
	clear(h)
	if again, _, _ := Find(level.Snapshot, level.Serial, s, fuel.Most); script.Print(want) != text || script.Print(again) != text {
		t.Error("answers share memory")
	}
}

// P1: every call ends without a panic: levels far out, bounds far out, where there is nothing within them, or little fuel.
func TestP1NoPanic(t *testing.T) {
	m := sample.Mixed(3)
	far := append(sample.Far(), 0, 1, 2)
	for _, a := range far {
		for _, b := range append(far, 3, 11) {
			for _, h := range [][]api.Txn{nil, m.History(m.Next(5), 3), sample.Apart(64), make([]api.Txn, 1<<10), {{Session: a, Begin: b, Commit: a, Ops: []api.Op{{Key: a, Value: b}}}}} {
				for _, much := range []int{0, 5, 200} {
					yes, e := Parts(h, api.Level(a), api.Level(b), fuel.New(much))
					if e != api.OK && yes || yes && !level.Is(api.Level(a)) {
						t.Error("Parts", yes, e)
					}
				}
			}
			for _, s := range []enum.Bounds{{Sessions: a, Txns: b, Ops: a, Keys: b}, {Sessions: b, Txns: a, Ops: b, Keys: 2}, {Sessions: 3, Txns: math.MaxInt, Ops: math.MaxInt, Keys: a}, {Txns: math.MaxInt, Ops: math.MaxInt, Keys: a}} {
				for _, much := range []int{a, b, 0, 1, 300} {
					if much > 1000 {
						much = 1000
					}
					h, found, e := Find(api.Level(a), api.Level(b), s, much)
					if e != api.OK && (found || len(h) != 0) || found && !level.Is(api.Level(a)) {
						t.Error("Find", h, found, e)
					}
				}
			}
		}
	}
}
