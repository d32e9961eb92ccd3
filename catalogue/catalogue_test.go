package catalogue

import (
	"math"
	"testing"

	"burgage/api"
	"burgage/axiom"
	"burgage/brute"
	"burgage/fuel"
	"burgage/history"
	"burgage/level"
	"burgage/order"
	"burgage/sample"
	"burgage/vector"
)

// asks: what each level asks, by its number, by hand. closed: all that follows of that.
var (
	asks   = []int{0, 1, 3, 9, 5, 11, 13, 17, 34, 36, 44, 48}
	closed = []int{0, 1, 3, 9, 7, 11, 15, 31, 35, 39, 47, 63}
)

// names: of the Entries, in their order.
var names = []string{"own write unseen", "cause unseen", "long fork", "lost update", "write skew", "stale read"}

// strange: numbers that no level has.
func strange() []api.Level {
	var l []api.Level
	for _, n := range append(sample.Far(), -12, -2, 12, 13, 15, 16, 23, 256, 267, math.MaxInt-1) {
		l = append(l, api.Level(n))
	}
	return l
}

// same: whether two Entries are the same.
func same(a, b Entry) bool {
	return a.Name == b.Name && a.Missing == b.Missing && history.Same(a.History, b.History)
}

// accepted: whether a history is accepted by each level, by all orders and all that may be seen.
func accepted(o *order.Orders) [12]bool {
	var yes [12]bool
	for _, row := range sample.Rows(o.N) {
		for _, vis := range sample.Forms(row) {
			for l := range yes {
				yes[l] = yes[l] || axiom.Holds(o, api.Level(l), row, vis)
			}
		}
	}
	return yes
}

func TestP20_1All(t *testing.T) {
	all := All()
	if len(all) != 6 {
		t.Fatal("there are", len(all))
	}
	for i, e := range all {
		if e.Name != names[i] || e.Missing != 1<<i {
			t.Errorf("%d: Name %q, Missing %d", i, e.Name, e.Missing)
		}
		if f := history.Check(e.History); f != api.OK || len(e.History) > 4 {
			t.Errorf("%s: Check = %v, of %d transactions", e.Name, f, len(e.History))
		}
	}
	for i, bit := range []int{level.Session, level.Transitive, level.Prefix, level.Rivals, level.Total, level.Time} {
		if all[i].Missing != bit {
			t.Error("Missing", i, all[i].Missing)
		}
	}
}

// Each history is accepted by just those levels that don't ask, nor ask by what follows, what it misses.
func TestP20_1Accepted(t *testing.T) {
	for i, e := range All() {
		o := sample.Follow(t, e.History)
		for l, yes := range accepted(o) {
			if yes != (closed[l]>>i&1 == 0) {
				t.Errorf("%s: level %d: %v", e.Name, l, yes)
			}
			if _, by, ok := brute.Decide(o, api.Level(l)); by != yes || !ok {
				t.Errorf("%s: level %d: layer 13 says %v", e.Name, l, by)
			}
		}
		v, f := vector.Of(o, fuel.Most)
		if f != api.OK || v.Row != accepted(o) {
			t.Errorf("%s: layer 18 says %v, %v", e.Name, v.Row, f)
		}
	}
}

// first: the Entry that is to be found; -1: none is.
func first(a, b api.Level) int {
	for i := range 6 {
		if a >= 0 && a < 12 && b >= 0 && b < 12 && asks[b]>>i&1 == 1 && closed[a]>>i&1 == 0 {
			return i
		}
	}
	return -1
}

// Of all levels, and of numbers that no level has, at which nothing panics (P1).
func TestP20_2Find(t *testing.T) {
	all := All()
	l := strange()
	for a := range api.Level(12) {
		l = append(l, a)
	}
	found := map[string]int{}
	for _, a := range l {
		for _, b := range l {
			e, ok := Find(a, b)
			var want Entry
			if i := first(a, b); i >= 0 {
				want = all[i]
			}
			if ok != (want.Name != "") || !same(e, want) {
				t.Errorf("Find(%d, %d) = %v, %v, not %q", a, b, e, ok, want.Name)
			}
			found[e.Name]++
		}
	}
	for _, name := range names {
		if found[name] == 0 {
			t.Error("it is never found:", name)
		}
	}
}

// What is found is accepted by the first level, and not by the second one; of levels that imply each other nothing is found.
func TestP20_2Parts(t *testing.T) {
	for a := range api.Level(12) {
		for b := range api.Level(12) {
			e, ok := Find(a, b)
			if implied := closed[b]&^closed[a] == 0; ok == implied {
				t.Errorf("Find(%d, %d) = %v", a, b, ok)
			}
			if !ok {
				continue
			}
			if yes := accepted(sample.Follow(t, e.History)); !yes[a] || yes[b] {
				t.Errorf("Find(%d, %d): %s doesn't part them", a, b, e.Name)
			}
		}
	}
}

func TestP20_2Named(t *testing.T) {
	cases := []struct {
		a, b api.Level
		name string
	}{
		{level.Snapshot, level.Serial, "write skew"}, // the document's example
		{level.ReadAtomic, level.SessionAtomic, "own write unseen"},
		{level.ReadAtomic, level.Causal, "own write unseen"},
		{level.SessionAtomic, level.Causal, "cause unseen"},
		{level.Update, level.Parallel, "cause unseen"},
		{level.Parallel, level.Snapshot, "long fork"},
		{level.Causal, level.TimeSnapshot, "long fork"},
		{level.SessionAtomic, level.PrefixLevel, "long fork"}, // it asks Prefix, of which Transitive but follows
		{level.PrefixLevel, level.Update, "lost update"},
		{level.TimePrefix, level.TimeSnapshot, "lost update"},
		{level.Causal, level.Strict, "write skew"},
		{level.ReadAtomic, level.Strict, "write skew"}, // it asks Total and Time alone
		{level.ReadAtomic, level.TimeCausal, "cause unseen"},
		{level.Serial, level.Strict, "stale read"},
		{level.Causal, level.TimeCausal, "stale read"},
		{level.Strict, level.Serial, ""},
		{level.Serial, level.Serial, ""},
		{level.TimeCausal, level.SessionAtomic, ""},
		{level.Strict, level.ReadAtomic, ""},
		{12, level.Strict, ""},
		{-1, level.Strict, ""},
		{level.ReadAtomic, 12, ""},
		{level.ReadAtomic, -1, ""},
		{math.MinInt, math.MaxInt, ""},
	}
	for _, c := range cases {
		if e, ok := Find(c.a, c.b); e.Name != c.name || ok != (c.name != "") || !ok && !same(e, Entry{}) {
			t.Errorf("Find(%d, %d) = %v, %v, not %q", c.a, c.b, e, ok, c.name)
		}
	}
}

// scratch: overwrites an Entry, and the room behind its lists.
func scratch(e Entry) {
	for i := range e.History {
		_ = append(e.History[i].Ops, api.Op{Key: 50}, api.Op{Key: 51})
		clear(e.History[i].Ops)
	}
	_ = append(e.History, api.Txn{Session: 50}, api.Txn{Session: 51})
	clear(e.History)
}

// P2: what is answered is apart: of other answers, and of what stands beside it in the same one.
func TestP2Apart(t *testing.T) {
	want, all, other := All(), All(), All()
	for i := range all {
		for k, l := range all[i].History {
			_ = append(l.Ops, api.Op{Key: 50}, api.Op{Key: 51})
			clear(l.Ops)
			all[i].History[k].Ops = want[i].History[k].Ops
			for j := range all {
				if !same(all[j], other[j]) {
					t.Fatal("lists of one answer share memory", i, j)
				}
			}
		}
		_ = append(all[i].History, api.Txn{Session: 50}, api.Txn{Session: 51})
		clear(all[i].History)
		all[i] = other[i]
		for j := range all {
			if !same(all[j], other[j]) || !same(All()[j], other[j]) {
				t.Fatal("histories share memory", i, j)
			}
		}
	}
	_ = append(all, Entry{Name: "more"})
	clear(all)
	for a := range api.Level(12) {
		for b := range api.Level(12) {
			e, _ := Find(a, b)
			scratch(e)
			if i := first(a, b); i >= 0 {
				if again, ok := Find(a, b); !ok || !same(again, other[i]) || !same(All()[i], other[i]) {
					t.Fatal("answers of Find share memory", a, b, again)
				}
			}
		}
	}
	for i := range other {
		if !same(other[i], want[i]) {
			t.Error("another answer", i)
		}
	}
}
