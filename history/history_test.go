package history

import (
	"maps"
	"math"
	"slices"
	"testing"

	"burgage/api"
)

// r, w: a read and a write.
func r(key, value int) api.Op { return api.Op{Key: key, Value: value} }

func w(key, value int) api.Op { return api.Op{Write: true, Key: key, Value: value} }

// of: a transaction of a session, from a stamp to another one.
func of(session, begin, commit int, ops ...api.Op) api.Txn {
	return api.Txn{Session: session, Begin: begin, Commit: commit, Ops: ops}
}

// apart: the same history, copied plainly.
func apart(h []api.Txn) []api.Txn {
	var out []api.Txn
	for _, t := range h {
		out = append(out, of(t.Session, t.Begin, t.Commit, append([]api.Op{}, t.Ops...)...))
	}
	return out
}

// same: whether two histories are one, told item by item.
func same(a, b []api.Txn) bool {
	if len(a) != len(b) {
		return false
	}
	for i, x := range a {
		y := b[i]
		if x.Session != y.Session || x.Begin != y.Begin || x.Commit != y.Commit || len(x.Ops) != len(y.Ops) {
			return false
		}
		for k, o := range x.Ops {
			if o.Write != y.Ops[k].Write || o.Key != y.Ops[k].Key || o.Value != y.Ops[k].Value {
				return false
			}
		}
	}
	return true
}

// place: an operation, and whose it is. places: all of them, one behind the other.
type place struct {
	txn int
	op  api.Op
}

func places(h []api.Txn) []place {
	var l []place
	for i, t := range h {
		for _, o := range t.Ops {
			l = append(l, place{i, o})
		}
	}
	return l
}

// partsMay: whether all transactions may be.
func partsMay(h []api.Txn) bool {
	ok := true
	for _, t := range h {
		ok = ok && 0 <= t.Session && t.Session <= 63 && 0 <= t.Begin && t.Begin < t.Commit && t.Commit <= 2147483647
		ok = ok && 1 <= len(t.Ops) && len(t.Ops) <= 64
	}
	for _, p := range places(h) {
		ok = ok && 0 <= p.op.Key && p.op.Key <= 63 && 0 <= p.op.Value && p.op.Value <= 2147483647
		ok = ok && !(p.op.Write && p.op.Value == 0)
	}
	return ok
}

// valuesMay: whether no value is written twice, and each that is read is written to its key.
func valuesMay(h []api.Txn) bool {
	all := places(h)
	ok := true
	for i, p := range all {
		written := p.op.Write || p.op.Value == 0
		for k, q := range all {
			if p.op.Write && q.op.Write && i != k && p.op.Value == q.op.Value {
				ok = false
			}
			written = written || q.op == w(p.op.Key, p.op.Value)
		}
		ok = ok && written
	}
	return ok
}

// stampsMay: whether all stamps are unlike, and those of a session rise.
func stampsMay(h []api.Txn) bool {
	ok := true
	for i, x := range h {
		ok = ok && x.Begin != x.Commit
		for _, y := range h[i+1:] {
			ok = ok && x.Begin != y.Begin && x.Begin != y.Commit && x.Commit != y.Begin && x.Commit != y.Commit
			ok = ok && (x.Session != y.Session || x.Commit < y.Begin)
		}
	}
	return ok
}

// check: what Check is to answer.
func check(h []api.Txn) api.Errno {
	switch {
	case len(h) > 64 || len(places(h)) > 1024:
		return api.ErrLarge
	case partsMay(h) && valuesMay(h) && stampsMay(h):
		return api.OK
	}
	return api.ErrForm
}

// writes: what Writes is to answer of a history in which no value is written twice.
func writes(h []api.Txn) map[int]Write {
	by := map[int]Write{}
	for i, p := range places(h) {
		if !p.op.Write {
			continue
		}
		last := true
		for _, q := range places(h)[i+1:] {
			last = last && !(q.txn == p.txn && q.op.Write && q.op.Key == p.op.Key)
		}
		by[p.op.Value] = Write{Txn: p.txn, Key: p.op.Key, Last: last}
	}
	return by
}

// good: a history that may be, of three sessions, with overwritten values, and with reads ahead of what they read.
func good() []api.Txn {
	return []api.Txn{
		of(0, 1, 6, w(0, 5), w(0, 6), r(1, 7), r(2, 0)),
		of(63, 0, 3, w(1, 7), r(0, 5), r(1, 7)),
		of(0, 8, 9, r(0, 6), w(63, 2147483647), r(0, 6)),
		of(2, 2, 2147483647, r(1, 11), w(1, 11), w(2, 1)),
		of(63, 4, 7, r(63, 2147483647), r(5, 0)),
	}
}

// mixed: numbers that are mixed, always the same ones.
type mixed uint64

func (m *mixed) next(below int) int {
	*m = *m*6364136223846793005 + 1442695040888963407
	return int(*m>>33) % below
}

// mixedHistories: small histories of few names, many of which may be, and many of which may only nearly.
func mixedHistories(many int) [][]api.Txn {
	m := mixed(1)
	all := make([][]api.Txn, many)
	for i := range all {
		stamps, value := 0, 0
		for range m.next(5) {
			t := of(m.next(3), stamps, stamps+1+m.next(2))
			stamps = t.Commit + m.next(3)*m.next(2)
			if m.next(12) > 0 {
				stamps = max(stamps, t.Commit+1)
			}
			for range 1 + m.next(3) {
				if m.next(2) == 0 {
					value++
					t.Ops = append(t.Ops, w(m.next(2), value))
					continue
				}
				t.Ops = append(t.Ops, r(m.next(2), m.next(3)))
			}
			if m.next(30) == 0 {
				t.Ops[0].Value = 1
			}
			all[i] = append(all[i], t)
		}
		if l := all[i]; len(l) > 1 && m.next(4) == 0 {
			k := m.next(len(l))
			l[0], l[k] = l[k], l[0]
		}
	}
	return all
}

// long: so many transactions of so many reads of 0 each, which may be.
func long(txns, ops int) []api.Txn {
	var h []api.Txn
	for i := range txns {
		h = append(h, of(i%64, 2*i, 2*i+1, make([]api.Op, ops)...))
	}
	return h
}

func TestP6_1Ops(t *testing.T) {
	if MaxTxns != 64 || MaxOps != 1024 {
		t.Error("the limits", MaxTxns, MaxOps)
	}
	for _, c := range []struct {
		h    []api.Txn
		want int
	}{{nil, 0}, {[]api.Txn{}, 0}, {[]api.Txn{{}}, 0}, {good(), 15}, {long(3, 70), 210}, {long(100, 1), 100}, {append(long(2, 600), api.Txn{}), 1200}} {
		if got := Ops(c.h); got != c.want {
			t.Errorf("Ops of %d transactions = %d, not %d", len(c.h), got, c.want)
		}
	}
}

func TestP6_1CheckOfLargeOnes(t *testing.T) {
	// shape: 15 transactions of 64 operations, one of 63, and one of so many more: 1023 and those.
	shape := func(more int) []api.Txn {
		h := long(17, 64)
		h[15].Ops = h[15].Ops[:63]
		h[16].Ops = h[16].Ops[:more]
		return h
	}
	wrong := func(h []api.Txn) []api.Txn {
		h[0].Session, h[0].Ops[0] = 64, w(64, 0)
		return h
	}
	list := []struct {
		what string
		h    []api.Txn
		want api.Errno
	}{
		{"none", nil, api.OK},
		{"none, not nil", []api.Txn{}, api.OK},
		{"64 transactions", long(64, 1), api.OK},
		{"65 transactions", long(65, 1), api.ErrLarge},
		{"1000 transactions", long(1000, 1), api.ErrLarge},
		{"1024 operations", long(16, 64), api.OK},
		{"1024 operations, in another way", shape(1), api.OK},
		{"1025 operations", shape(2), api.ErrLarge},
		{"64 transactions and 1024 operations", long(64, 16), api.OK},
		{"64 transactions and 1088 operations", long(64, 17), api.ErrLarge},
		{"65 operations of one", long(1, 65), api.ErrForm},
		{"1024 operations of one", long(1, 1024), api.ErrForm},
		{"1025 operations of one", long(1, 1025), api.ErrLarge},
		{"64 transactions, wrong", wrong(long(64, 1)), api.ErrForm},
		{"65 transactions, wrong", wrong(long(65, 1)), api.ErrLarge},
		{"65 transactions without operations", make([]api.Txn, 65), api.ErrLarge},
		{"64 transactions without operations", make([]api.Txn, 64), api.ErrForm},
		{"1025 operations, wrong", wrong(shape(2)), api.ErrLarge},
		{"1024 operations, wrong", wrong(shape(1)), api.ErrForm},
	}
	for _, c := range list {
		if got := Check(c.h); got != c.want {
			t.Errorf("Check of %s = %d, not %d", c.what, got, c.want)
		}
	}
}

// Each change of one thing makes a history that may be one that may not, or another one that may.
func TestP6_1CheckOfChanged(t *testing.T) {
	if got := Check(good()); got != api.OK {
		t.Fatal("Check of a good one", got)
	}
	list := []struct {
		what   string
		change func(h []api.Txn)
		want   api.Errno
	}{
		{"a wrong session", func(h []api.Txn) { h[3].Session = 64 }, api.ErrForm},
		{"a session below 0", func(h []api.Txn) { h[3].Session = -1 }, api.ErrForm},
		{"a Begin below 0", func(h []api.Txn) { h[1].Begin = -1 }, api.ErrForm},
		{"a Commit that is too great", func(h []api.Txn) { h[3].Commit++ }, api.ErrForm},
		{"a Begin behind the Commit", func(h []api.Txn) { h[3].Begin, h[3].Commit = h[3].Commit, h[3].Begin }, api.ErrForm},
		{"no operations", func(h []api.Txn) { h[4].Ops = nil }, api.ErrForm},
		{"a wrong key", func(h []api.Txn) { h[4].Ops[1].Key = 64 }, api.ErrForm},
		{"a write of 0", func(h []api.Txn) { h[4].Ops[1] = w(5, 0) }, api.ErrForm},
		{"a value below 0", func(h []api.Txn) { h[4].Ops[1].Value = -1 }, api.ErrForm},
		{"twice by one, to one key", func(h []api.Txn) { h[4].Ops = []api.Op{w(9, 30), w(9, 30)} }, api.ErrForm},
		{"twice by one, to two keys", func(h []api.Txn) { h[4].Ops = []api.Op{w(8, 30), w(9, 30)} }, api.ErrForm},
		{"twice by two, to one key", func(h []api.Txn) { h[4].Ops[1] = w(1, 11) }, api.ErrForm},
		{"twice by two, to two keys", func(h []api.Txn) { h[4].Ops[1] = w(5, 7) }, api.ErrForm},
		{"a read of what nobody writes", func(h []api.Txn) { h[4].Ops[1].Value = 12 }, api.ErrForm},
		{"a read of another key's value", func(h []api.Txn) { h[4].Ops[1].Value = 7 }, api.ErrForm},
		{"a read of what was only read", func(h []api.Txn) { h[3].Ops[1], h[4].Ops[1] = r(1, 11), r(1, 11) }, api.ErrForm},
		{"a read of 0 of a key that is written", func(h []api.Txn) { h[4].Ops[1] = r(1, 0) }, api.OK},
		{"a read of what is overwritten", func(h []api.Txn) { h[4].Ops[1] = r(0, 5) }, api.OK},
		{"a read of one's own, ahead of it", func(h []api.Txn) { h[4].Ops = []api.Op{r(9, 30), w(9, 30)} }, api.OK},
		{"a read of one's own, not the last one", func(h []api.Txn) { h[4].Ops = []api.Op{w(9, 30), w(9, 31), r(9, 30)} }, api.OK},
		{"a Begin twice", func(h []api.Txn) { h[3].Begin = 0 }, api.ErrForm},
		{"a Commit twice", func(h []api.Txn) { h[3].Commit = 9 }, api.ErrForm},
		{"a Begin that is a Commit ahead", func(h []api.Txn) { h[3].Begin = 6 }, api.ErrForm},
		{"a Commit that is a Begin ahead", func(h []api.Txn) { h[3].Commit = 8 }, api.ErrForm},
		{"a Begin that is the Commit ahead, of its session", func(h []api.Txn) { h[2].Begin = 6 }, api.ErrForm},
		{"two at once, of one session", func(h []api.Txn) { h[2].Begin = 5 }, api.ErrForm},
		{"two in a session, the later one first", func(h []api.Txn) { h[0].Begin, h[0].Commit = 10, 11 }, api.ErrForm},
		{"one in another one, of one session", func(h []api.Txn) { h[3].Session = 63 }, api.ErrForm},
		{"two at once, of two sessions", func(h []api.Txn) { h[2].Begin, h[2].Session = 5, 3 }, api.OK},
		{"the later one first, of two sessions", func(h []api.Txn) { h[0].Begin, h[0].Commit, h[2].Session = 10, 11, 1 }, api.OK},
		{"another row, of two sessions", func(h []api.Txn) { h[0], h[1] = h[1], h[0] }, api.OK},
		{"another row, of one session", func(h []api.Txn) { h[1], h[4] = h[4], h[1] }, api.ErrForm},
		{"not steady", func(h []api.Txn) { h[0].Ops = []api.Op{w(0, 5), w(0, 6), r(0, 0), r(0, 5), r(1, 7)} }, api.OK},
	}
	for _, c := range list {
		h := good()
		c.change(h)
		if want := check(h); want != c.want {
			t.Errorf("%s: the model says %d, not %d", c.what, want, c.want)
		}
		if got := Check(h); got != c.want {
			t.Errorf("Check with %s = %d, not %d", c.what, got, c.want)
		}
	}
}

// The sessions' rule is of each two transactions, not only of neighbours, and of each session apart.
func TestP6_1CheckOfSessions(t *testing.T) {
	for _, c := range []struct {
		stamps [4]int
		want   api.Errno
	}{
		{[4]int{0, 4, 8, 12}, api.OK},
		{[4]int{4, 8, 0, 12}, api.ErrForm},
		{[4]int{0, 12, 8, 4}, api.ErrForm},
		{[4]int{12, 0, 4, 8}, api.ErrForm},
		{[4]int{0, 4, 12, 8}, api.ErrForm},
	} {
		var h []api.Txn
		for i, stamp := range c.stamps {
			h = append(h, of(7, stamp, stamp+1, r(0, 0)), of(20+i, 100-stamp, 200-stamp, r(0, 0)))
		}
		if got := Check(h); got != c.want || check(h) != c.want {
			t.Errorf("Check of %v = %d, not %d", c.stamps, got, c.want)
		}
	}
}

func TestP6_1CheckOfMixed(t *testing.T) {
	var many [7]int
	for _, h := range mixedHistories(60000) {
		want := check(h)
		many[want]++
		if got := Check(h); got != want {
			t.Fatalf("Check(%v) = %d, not %d", h, got, want)
		}
	}
	if many[api.OK] < 5000 || many[api.ErrForm] < 5000 {
		t.Error("the mixed histories are too much alike", many)
	}
}

func TestP6_2Writes(t *testing.T) {
	want := map[int]Write{
		5:          {Txn: 0, Key: 0},
		6:          {Txn: 0, Key: 0, Last: true},
		7:          {Txn: 1, Key: 1, Last: true},
		2147483647: {Txn: 2, Key: 63, Last: true},
		11:         {Txn: 3, Key: 1, Last: true},
		1:          {Txn: 3, Key: 2, Last: true},
	}
	if got, ok := Writes(good()); !ok || !maps.Equal(got, want) {
		t.Errorf("Writes = %v, %v", got, ok)
	}
	for _, h := range [][]api.Txn{nil, {}, long(3, 2)} {
		if got, ok := Writes(h); !ok || len(got) != 0 {
			t.Errorf("Writes without writes = %v, %v", got, ok)
		}
	}
	// To be the last one is of one key, and of one transaction.
	h := []api.Txn{of(0, 0, 1, w(0, 1), w(1, 2), w(0, 3), w(1, 4), r(0, 3), w(0, 5)), of(1, 2, 3, w(0, 6), w(2, 7))}
	want = map[int]Write{1: {0, 0, false}, 2: {0, 1, false}, 3: {0, 0, false}, 4: {0, 1, true}, 5: {0, 0, true}, 6: {1, 0, true}, 7: {1, 2, true}}
	if got, ok := Writes(h); !ok || !maps.Equal(got, want) {
		t.Errorf("Writes = %v, %v", got, ok)
	}
	right := 0
	for _, h := range mixedHistories(20000) {
		if check(h) != api.OK {
			continue
		}
		right++
		if got, ok := Writes(h); !ok || !maps.Equal(got, writes(h)) {
			t.Fatalf("Writes(%v) = %v, %v", h, got, ok)
		}
	}
	if right < 1000 {
		t.Error("few of the mixed histories may be", right)
	}
}

// Of histories that may not be it is promised whether no value is written twice.
func TestP6_2WritesOfWrongHistories(t *testing.T) {
	var many []api.Txn
	for i := range 3000 {
		many = append(many, of(-1, 5, 3, w(i%64, i+1), w(i%64, i+5001)))
	}
	list := []struct {
		what string
		h    []api.Txn
		want bool
	}{
		{"stamps that are alike", []api.Txn{of(0, 0, 1, w(0, 1)), of(0, 0, 1, w(0, 2))}, true},
		{"a read of what nobody writes", []api.Txn{of(0, 0, 1, w(0, 1), r(0, 2), r(0, 2), r(1, 1))}, true},
		{"no operations", []api.Txn{{}, {}}, true},
		{"too many of all", many, true},
		{"too many of all, and one twice", append(slices.Clone(many), of(0, 1, 2, w(63, 5001))), false},
		{"twice by one, to one key", []api.Txn{of(0, 0, 1, w(0, 1), w(0, 1))}, false},
		{"twice by one, to two keys", []api.Txn{of(0, 0, 1, w(0, 1), w(1, 1))}, false},
		{"twice by two, to one key", []api.Txn{of(0, 0, 1, w(0, 1)), of(1, 2, 3, w(0, 1))}, false},
		{"twice by two, to two keys", []api.Txn{of(0, 0, 1, w(0, 1)), of(1, 2, 3, w(2, 2), w(1, 1))}, false},
		{"twice, and overwritten", []api.Txn{of(0, 0, 1, w(0, 1), w(0, 2)), of(1, 2, 3, w(0, 1), w(0, 3))}, false},
	}
	for _, c := range list {
		if _, ok := Writes(c.h); ok != c.want {
			t.Errorf("Writes of %s: %v", c.what, ok)
		}
	}
	for _, h := range mixedHistories(20000) {
		all := places(h)
		want := true
		for i, p := range all {
			for _, q := range all[i+1:] {
				want = want && !(p.op.Write && q.op.Write && p.op.Value == q.op.Value)
			}
		}
		if !partsMay(h) {
			continue
		}
		if _, ok := Writes(h); ok != want {
			t.Fatalf("Writes(%v): %v", h, ok)
		}
	}
}

func TestP6_3Copy(t *testing.T) {
	list := append(mixedHistories(2000), nil, []api.Txn{}, good(), make([]api.Txn, 3), long(70, 2), long(2, 2000), []api.Txn{of(-1, 9, 3, w(64, 0), r(-5, -6))})
	for _, h := range list {
		was := apart(h)
		c := Copy(h)
		if !same(c, h) || !same(h, was) {
			t.Fatalf("Copy(%v) = %v", was, c)
		}
		// Whatever is done to the one, with its room, the other one stays what it is.
		for i := range c {
			c[i].Session++
			for k := range c[i].Ops {
				c[i].Ops[k].Value += 1000
			}
			_ = append(c[i].Ops, w(9, 9), w(9, 9), w(9, 9))
			for k, x := range c {
				if k > i && !same([]api.Txn{x}, was[k:k+1]) {
					t.Fatal("two lists of one copy share memory")
				}
			}
		}
		_ = append(c, of(9, 9, 9, w(9, 9)))
		if !same(h, was) {
			t.Fatalf("a change of the copy changed %v", was)
		}
	}
}

// Transactions that share their operations are copied apart, too.
func TestP6_3CopyOfShared(t *testing.T) {
	ops := []api.Op{r(0, 0), r(1, 0), r(2, 0), r(3, 0)}
	h := []api.Txn{of(0, 0, 1, ops[:2]...), of(1, 2, 3, ops[:2]...), of(2, 4, 5, ops[1:3]...)}
	c := Copy(h)
	c[0].Ops[0], c[0].Ops[1] = w(9, 9), w(9, 8)
	_ = append(c[1].Ops, w(9, 7), w(9, 6))
	if !slices.Equal(c[1].Ops, []api.Op{r(0, 0), r(1, 0)}) || !slices.Equal(c[2].Ops, []api.Op{r(1, 0), r(2, 0)}) || !slices.Equal(ops, []api.Op{r(0, 0), r(1, 0), r(2, 0), r(3, 0)}) {
		t.Error("shared", c, ops)
	}
}

func TestP6_3Same(t *testing.T) {
	none := []api.Txn{of(0, 1, 2)}
	if !Same(nil, nil) || !Same(nil, []api.Txn{}) || !Same(none, []api.Txn{{Begin: 1, Commit: 2, Ops: []api.Op{}}}) || Same(nil, none) || Same(none, nil) {
		t.Error("Same of none")
	}
	if !Same(good(), good()) || !Same(good(), apart(good())) {
		t.Error("Same of the same")
	}
	for i, change := range []func(h []api.Txn) []api.Txn{
		func(h []api.Txn) []api.Txn { return h[:4] },
		func(h []api.Txn) []api.Txn { return h[1:] },
		func(h []api.Txn) []api.Txn { return append(h, of(9, 20, 21, r(0, 0))) },
		func(h []api.Txn) []api.Txn { return append(h, api.Txn{}) },
		func(h []api.Txn) []api.Txn { h[0], h[1] = h[1], h[0]; return h },
		func(h []api.Txn) []api.Txn { h[4].Session = 1; return h },
		func(h []api.Txn) []api.Txn { h[4].Begin++; return h },
		func(h []api.Txn) []api.Txn { h[4].Commit++; return h },
		func(h []api.Txn) []api.Txn { h[4].Ops[1].Write = true; return h },
		func(h []api.Txn) []api.Txn { h[4].Ops[1].Key++; return h },
		func(h []api.Txn) []api.Txn { h[4].Ops[1].Value++; return h },
		func(h []api.Txn) []api.Txn { h[4].Ops = h[4].Ops[:1]; return h },
		func(h []api.Txn) []api.Txn { h[4].Ops = append(h[4].Ops, r(0, 0)); return h },
		func(h []api.Txn) []api.Txn { h[4].Ops = nil; return h },
		func(h []api.Txn) []api.Txn { slices.Reverse(h[4].Ops); return h },
		func(h []api.Txn) []api.Txn { h[3].Ops, h[4].Ops = h[4].Ops, h[3].Ops; return h },
	} {
		x := change(good())
		if Same(x, good()) || Same(good(), x) {
			t.Error("Same of others", i)
		}
	}
	all := append(mixedHistories(300), good(), long(70, 2), make([]api.Txn, 3))
	for _, a := range all {
		for _, b := range all {
			if got := Same(a, b); got != same(a, b) {
				t.Fatalf("Same(%v, %v) = %v", a, b, got)
			}
		}
	}
}

// P2: what is handed in stays as it was, its spare room too; what is answered is apart, and the same each time; and beside a false there is nothing.
func TestP2Apart(t *testing.T) {
	room := []api.Op{w(0, 1), r(0, 1), w(0, 2), w(1, 3), w(77, 78), w(79, 80)}
	rooms := []api.Txn{of(0, 0, 1, room[:3]...), of(1, 2, 3, room[3:4]...), of(5, 5, 5), of(6, 6, 6)}
	h, was, wasRoom := rooms[:2], apart(rooms), slices.Clone(room)
	want := map[int]Write{1: {0, 0, false}, 2: {0, 0, true}, 3: {1, 1, true}}
	for range 200 {
		got, ok := Writes(h)
		if !ok || !maps.Equal(got, want) {
			t.Fatal("another answer", got, ok)
		}
		clear(got)
		got[9] = Write{9, 9, true}
		if c := Copy(h); Check(h) != api.OK || Ops(h) != 4 || !Same(h, c) {
			t.Fatal("another answer", Check(h), Ops(h), c)
		}
		if !same(rooms, was) || !slices.Equal(room, wasRoom) {
			t.Fatal("what was handed in is changed", rooms, room)
		}
	}
	if by, ok := Writes([]api.Txn{of(0, 0, 1, w(0, 1), w(0, 1))}); ok || len(by) != 0 {
		t.Error("beside a false", by)
	}
}

// P1: every call ends without a panic, at whatever numbers, and at many of them.
func TestP1NoPanic(t *testing.T) {
	numbers := []int{math.MinInt, -1 << 32, -65, -1, 0, 1, 63, 64, 1 << 31, 1 << 32, math.MaxInt}
	var odd []api.Txn
	for _, a := range numbers {
		for _, b := range numbers {
			odd = append(odd, of(a, b, a, w(a, b), r(b, a), r(a, a)), of(b, a, b))
		}
	}
	ops := make([]api.Op, 1<<18)
	for i := range ops {
		ops[i] = api.Op{Write: i%2 == 0, Key: i - 1<<17, Value: -i}
	}
	all := [][]api.Txn{nil, odd, odd[:60], make([]api.Txn, 1<<16), {of(0, 0, 1, ops...)}, {of(0, 0, 1, ops...), of(0, 0, 1, ops...)}}
	for i := range odd {
		all = append(all, odd[i:i+1])
	}
	for i, a := range all {
		Ops(a)
		Writes(a)
		if got := Check(a); got != check(a) && i > 0 {
			t.Error("Check", i, got)
		}
		if !Same(a, Copy(a)) {
			t.Error("Copy", i)
		}
		for _, b := range all[:6] {
			Same(a, b)
		}
	}
}
