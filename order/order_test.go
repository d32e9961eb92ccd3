package order

import (
	"maps"
	"math"
	"slices"
	"testing"

	"burgage/api"
	"burgage/history"
	"burgage/rel"
	"burgage/set"
)

// r, w: a read and a write.
func r(key, value int) api.Op { return api.Op{Key: key, Value: value} }

func w(key, value int) api.Op { return api.Op{Write: true, Key: key, Value: value} }

// of: a transaction of a session, from a stamp to another one.
func of(session, begin, commit int, ops ...api.Op) api.Txn {
	return api.Txn{Session: session, Begin: begin, Commit: commit, Ops: ops}
}

// alone: a transaction that is behind all that has come, of a session of its own.
func alone(i int, ops ...api.Op) api.Txn { return of(i, 2*i, 2*i+1, ops...) }

// row: transactions of such operations, one behind the other.
func row(all ...[]api.Op) []api.Txn {
	var h []api.Txn
	for i, ops := range all {
		h = append(h, alone(i, ops...))
	}
	return h
}

// ops: some operations.
func ops(l ...api.Op) []api.Op { return l }

// many: so many transactions of so many reads of 0 each, which may be.
func many(txns, reads int) []api.Txn {
	var h []api.Txn
	for i := range txns {
		h = append(h, of(i%64, 2*i, 2*i+1, make([]api.Op, reads)...))
	}
	return h
}

// The model: what follows of a history, each told by its own words in the document, operation by operation.

// ahead: the operations of a transaction of the key of the one at i that are ahead of it.
func ahead(t api.Txn, i int) []api.Op {
	var l []api.Op
	for _, o := range t.Ops[:i] {
		if o.Key == t.Ops[i].Key {
			l = append(l, o)
		}
	}
	return l
}

// writes: whether a transaction writes a value. lastly: whether that is the last one that it writes to its key.
func writes(t api.Txn, value int) bool {
	return slices.ContainsFunc(t.Ops, func(o api.Op) bool { return o.Write && o.Value == value })
}

func lastly(t api.Txn, value int) bool {
	last := map[int]int{}
	for _, o := range t.Ops {
		if o.Write {
			last[o.Key] = o.Value
		}
	}
	for _, v := range last {
		if v == value {
			return true
		}
	}
	return false
}

// who: the transaction that writes a value; -1: none does.
func who(h []api.Txn, value int) int {
	return slices.IndexFunc(h, func(t api.Txn) bool { return writes(t, value) })
}

// outer: the reads that are the first operation of their key in a transaction, by rising keys.
func outer(t api.Txn) []api.Op {
	var l []api.Op
	for key := range 64 {
		for i, o := range t.Ops {
			if o.Key == key && !o.Write && len(ahead(t, i)) == 0 {
				l = append(l, o)
			}
		}
	}
	return l
}

// readsOf: what a transaction is to read of others. keysOf: the keys that it is to write to.
func readsOf(h []api.Txn, i int) []Read {
	var l []Read
	for _, o := range outer(h[i]) {
		if !writes(h[i], o.Value) {
			l = append(l, Read{o.Key, who(h, o.Value)})
		}
	}
	return l
}

func keysOf(t api.Txn) []int {
	var l []int
	for key := range 64 {
		if slices.ContainsFunc(t.Ops, func(o api.Op) bool { return o.Write && o.Key == key }) {
			l = append(l, key)
		}
	}
	return l
}

// soundOf: whether a transaction reads what it may, whoever comes ahead of whom.
func soundOf(h []api.Txn, i int) bool {
	for k, o := range h[i].Ops {
		before := ahead(h[i], k)
		if o.Write {
			continue
		}
		if len(before) > 0 && before[len(before)-1].Value != o.Value {
			return false
		}
		if len(before) == 0 && o.Value != 0 && (who(h, o.Value) == i || !lastly(h[who(h, o.Value)], o.Value)) {
			return false
		}
	}
	return true
}

// model: what Of is to answer of a history that may be.
func model(h []api.Txn) *Orders {
	o := &Orders{N: len(h), Writers: map[int]set.Set{}, Sound: true}
	for b, y := range h {
		o.Keys = append(o.Keys, keysOf(y))
		o.Reads = append(o.Reads, readsOf(h, b))
		o.Sound = o.Sound && soundOf(h, b)
		for _, key := range keysOf(y) {
			o.Writers[key] |= 1 << b
		}
		for a, x := range h {
			if a < b && x.Session == y.Session {
				o.Session[a] |= 1 << b
			}
			if x.Commit < y.Begin {
				o.Time[a] |= 1 << b
			}
			for _, read := range readsOf(h, b) {
				if read.From == a {
					o.From[a] |= 1 << b
				}
			}
		}
	}
	return o
}

// rivals: what Rivals is to answer.
func rivals(h []api.Txn, i int) set.Set {
	var s set.Set
	for k, x := range h {
		for _, key := range keysOf(x) {
			if i >= 0 && i < len(h) && k != i && slices.Contains(keysOf(h[i]), key) {
				s |= 1 << k
			}
		}
	}
	return s
}

// differ: the names of the fields in which two Orders aren't the same.
func differ(a, b *Orders) []string {
	var l []string
	for _, c := range []struct {
		name string
		same bool
	}{
		{"N", a.N == b.N},
		{"Session", a.Session == b.Session},
		{"Time", a.Time == b.Time},
		{"From", a.From == b.From},
		{"Writers", maps.Equal(a.Writers, b.Writers)},
		{"Keys", slices.EqualFunc(a.Keys, b.Keys, slices.Equal[[]int])},
		{"Reads", slices.EqualFunc(a.Reads, b.Reads, slices.Equal[[]Read])},
		{"Sound", a.Sound == b.Sound},
	} {
		if !c.same {
			l = append(l, c.name)
		}
	}
	return l
}

// mixed: numbers that are mixed, always the same ones.
type mixed uint64

func (m *mixed) next(below int) int {
	*m = *m*6364136223846793005 + 1442695040888963407
	return int(*m>>33) % below
}

// stamped: so many transactions of some sessions, without operations, whose stamps lie in each other in all ways, in a row that only the sessions bind.
func (m *mixed) stamped(txns, sessions int) []api.Txn {
	var h []api.Txn
	open := map[int]int{}
	for stamp := 0; len(h) < txns || len(open) > 0; stamp++ {
		session := m.next(sessions)
		i, isOpen := open[session]
		switch {
		case isOpen:
			h[i].Commit = stamp
			delete(open, session)
		case len(h) < txns:
			open[session] = len(h)
			h = append(h, of(session, stamp, 0))
		}
	}
	for range 3 * len(h) {
		i := m.next(len(h))
		if i > 0 && h[i].Session != h[i-1].Session {
			h[i], h[i-1] = h[i-1], h[i]
		}
	}
	return h
}

// history: a history that may be, that reads whatever its keys have at any time.
func (m *mixed) history(txns, sessions, keys, long int) []api.Txn {
	h := m.stamped(txns, sessions)
	values, value := map[int][]int{}, 0
	for i := range h {
		for range 1 + m.next(long) {
			o := api.Op{Write: m.next(2) == 0, Key: m.next(keys)}
			if o.Write {
				value++
				o.Value = value * 7
				values[o.Key] = append(values[o.Key], o.Value)
			}
			h[i].Ops = append(h[i].Ops, o)
		}
	}
	for i := range h {
		for k, o := range h[i].Ops {
			if l := values[o.Key]; !o.Write && len(l) > 0 && m.next(4) > 0 {
				h[i].Ops[k].Value = l[m.next(len(l))]
			}
		}
	}
	return h
}

// mixedHistories: many histories that may be, of all sizes.
func mixedHistories() [][]api.Txn {
	m := mixed(1)
	all := [][]api.Txn{nil, many(64, 1), many(64, 16)}
	for i := range 12000 {
		all = append(all, m.history(m.next(7), 1+m.next(4), 1+m.next(3), 1+i%4))
	}
	for range 150 {
		all = append(all, m.history(20+m.next(45), 1+m.next(64), 1+m.next(64), 1+m.next(16)))
	}
	return all
}

// named: a history in which there is something of all, and what follows of it.
func named() ([]api.Txn, *Orders) {
	h := []api.Txn{
		of(4, 3, 4, r(1, 9), w(63, 5), w(0, 6), r(9, 0)),
		of(7, 0, 10, w(1, 9), r(63, 5), r(2, 0)),
		of(4, 6, 8, r(63, 5), w(63, 7), r(0, 6), r(63, 7)),
		of(0, 1, 2, r(63, 7)),
		of(4, 11, 12, r(5, 0)),
	}
	o := &Orders{
		N:       5,
		Writers: map[int]set.Set{0: set.Of(0), 1: set.Of(1), 63: set.Of(0, 2)},
		Keys:    [][]int{{0, 63}, {1}, {63}, nil, nil},
		Reads:   [][]Read{{{1, 1}, {9, -1}}, {{2, -1}, {63, 0}}, {{0, 0}, {63, 0}}, {{63, 2}}, {{5, -1}}},
		Sound:   true,
	}
	for _, p := range [][2]int{{0, 2}, {0, 4}, {2, 4}} {
		o.Session.Add(p[0], p[1])
	}
	for _, p := range [][2]int{{0, 2}, {0, 4}, {1, 4}, {2, 4}, {3, 0}, {3, 2}, {3, 4}} {
		o.Time.Add(p[0], p[1])
	}
	for _, p := range [][2]int{{1, 0}, {0, 1}, {0, 2}, {2, 3}} {
		o.From.Add(p[0], p[1])
	}
	return h, o
}

func TestP8_1And2Named(t *testing.T) {
	h, want := named()
	got, e := Of(h)
	if e != api.OK || got == nil {
		t.Fatal("Of", got, e)
	}
	if l := differ(got, want); len(l) > 0 {
		t.Errorf("Of = %+v, not %+v: %v", got, want, l)
	}
	if l := differ(model(h), want); len(l) > 0 {
		t.Error("the model says otherwise", l)
	}
	for _, none := range [][]api.Txn{nil, {}} {
		got, e := Of(none)
		if e != api.OK || got == nil {
			t.Fatal("Of none", got, e)
		}
		if l := differ(got, &Orders{Sound: true}); len(l) > 0 {
			t.Error("Of none", got, l)
		}
	}
}

func TestP8_1And2OfMixed(t *testing.T) {
	sound, all := 0, mixedHistories()
	for _, h := range all {
		got, e := Of(h)
		if e != api.OK || got == nil {
			t.Fatal("Of", h, got, e)
		}
		if l := differ(got, model(h)); len(l) > 0 {
			t.Fatalf("Of(%v) = %+v, not %+v: %v", h, got, model(h), l)
		}
		if got.Sound {
			sound++
		}
	}
	if sound < 2000 || sound > len(all)-2000 {
		t.Error("the mixed histories are too much alike", sound)
	}
}

// What history.Check refuses nothing follows of.
func TestP8_1Errors(t *testing.T) {
	good, _ := named()
	list := []struct {
		what string
		h    []api.Txn
		e    api.Errno
	}{
		{"65 transactions", many(65, 1), api.ErrLarge},
		{"65 transactions, wrong", make([]api.Txn, 65), api.ErrLarge},
		{"1088 operations", many(64, 17), api.ErrLarge},
		{"a transaction without operations", make([]api.Txn, 1), api.ErrForm},
		{"65 operations of one", many(1, 65), api.ErrForm},
		{"a wrong session", []api.Txn{of(64, 0, 1, r(0, 0))}, api.ErrForm},
		{"a value that is written twice", row(ops(w(0, 1)), ops(w(1, 1))), api.ErrForm},
		{"a read of what nobody writes", row(ops(w(0, 1)), ops(r(0, 2))), api.ErrForm},
		{"a read of another key's value", row(ops(w(0, 1)), ops(r(1, 1))), api.ErrForm},
		{"a stamp twice", []api.Txn{of(0, 0, 2, r(0, 0)), of(1, 2, 3, r(0, 0))}, api.ErrForm},
		{"a session in another row", []api.Txn{good[2], good[0], good[1], good[3], good[4]}, api.ErrForm},
		{"a session at once", []api.Txn{of(0, 0, 2, r(0, 0)), of(0, 1, 3, r(0, 0))}, api.ErrForm},
	}
	for _, c := range list {
		if got, e := Of(c.h); got != nil || e != c.e || history.Check(c.h) != c.e {
			t.Errorf("Of with %s = %v, %d, not %d", c.what, got, e, c.e)
		}
	}
}

// Stamps bind nobody but by Time, and sessions nobody but by Session.
func TestP8_1SessionAndTime(t *testing.T) {
	list := []struct {
		what          string
		h             []api.Txn
		session, time rel.Rel
	}{
		{"one ahead of the other, of one session", []api.Txn{of(3, 0, 1, r(0, 0)), of(3, 2, 3, r(0, 0))}, rel.Chain(0, 1), rel.Chain(0, 1)},
		{"one ahead of the other, of two sessions", []api.Txn{of(3, 0, 1, r(0, 0)), of(2, 2, 3, r(0, 0))}, rel.Rel{}, rel.Chain(0, 1)},
		{"the later one first", []api.Txn{of(3, 2, 3, r(0, 0)), of(2, 0, 1, r(0, 0))}, rel.Rel{}, rel.Chain(1, 0)},
		{"at once", []api.Txn{of(3, 0, 2, r(0, 0)), of(2, 1, 3, r(0, 0))}, rel.Rel{}, rel.Rel{}},
		{"one in the other", []api.Txn{of(3, 0, 3, r(0, 0)), of(2, 1, 2, r(0, 0))}, rel.Rel{}, rel.Rel{}},
		{"three of one session", []api.Txn{of(63, 5, 6, r(0, 0)), of(63, 7, 9, r(0, 0)), of(63, 20, 21, r(0, 0))}, rel.Chain(0, 1, 2), rel.Chain(0, 1, 2)},
	}
	for _, c := range list {
		got, e := Of(c.h)
		if e != api.OK || got.Session != c.session || got.Time != c.time || got.From != (rel.Rel{}) {
			t.Errorf("%s: %v, %v, %v, %d", c.what, got.Session[:3], got.Time[:3], got.From[:3], e)
		}
	}
	var one [64]int
	for i := range one {
		one[i] = i
	}
	h := many(64, 1)
	if got, _ := Of(h); got.Session != (rel.Rel{}) || got.Time != rel.Chain(one[:]...) {
		t.Error("64 sessions", got.Session, got.Time)
	}
	for i := range h {
		h[i].Session = 9
	}
	if got, _ := Of(h); got.Session != rel.Chain(one[:]...) || got.Time != rel.Chain(one[:]...) {
		t.Error("one session of 64", got.Session, got.Time)
	}
}

func TestP8_2ReadsAndSound(t *testing.T) {
	list := []struct {
		what  string
		h     []api.Txn
		reads [][]Read
		sound bool
	}{
		{"writes alone", row(ops(w(0, 1), w(0, 2)), ops(w(0, 3))), [][]Read{nil, nil}, true},
		{"what is there at first", row(ops(r(0, 0)), ops(w(0, 3))), [][]Read{{{0, -1}}, nil}, true},
		{"what is there at first, of a key that was written", row(ops(w(0, 3)), ops(r(0, 0))), [][]Read{nil, {{0, -1}}}, true},
		{"what another one wrote", row(ops(w(0, 1)), ops(r(0, 1))), [][]Read{nil, {{0, 0}}}, true},
		{"what another one writes later", row(ops(r(0, 1)), ops(w(0, 1))), [][]Read{{{0, 1}}, nil}, true},
		{"what another one overwrote", row(ops(w(0, 1), w(0, 2)), ops(r(0, 1))), [][]Read{nil, {{0, 0}}}, false},
		{"what another one wrote last", row(ops(w(0, 1), w(0, 2)), ops(r(0, 2))), [][]Read{nil, {{0, 0}}}, true},
		{"what another one wrote, ahead of another key", row(ops(w(0, 1), w(1, 2)), ops(r(0, 1))), [][]Read{nil, {{0, 0}}}, true},
		{"what a third one overwrote", row(ops(w(0, 1)), ops(w(0, 2)), ops(r(0, 1))), [][]Read{nil, nil, {{0, 0}}}, true},
		{"its own", row(ops(w(0, 1), r(0, 1))), [][]Read{nil}, true},
		{"its own, overwritten", row(ops(w(0, 1), w(0, 2), r(0, 1))), [][]Read{nil}, false},
		{"its own, ahead of it", row(ops(r(0, 1), w(0, 1))), [][]Read{nil}, false},
		{"its own, ahead of it, and overwritten", row(ops(r(0, 1), w(0, 1), w(0, 2))), [][]Read{nil}, false},
		{"another one's behind its own", row(ops(w(0, 1)), ops(w(0, 2), r(0, 1))), [][]Read{nil, nil}, false},
		{"what is there at first, behind its own", row(ops(w(0, 2), r(0, 0))), [][]Read{nil}, false},
		{"two unlike ones", row(ops(w(0, 1)), ops(r(0, 1), r(0, 0))), [][]Read{nil, {{0, 0}}}, false},
		{"two alike", row(ops(w(0, 1)), ops(r(0, 1), r(0, 1))), [][]Read{nil, {{0, 0}}}, true},
		{"another one's, overwritten by itself", row(ops(w(0, 1)), ops(r(0, 1), w(0, 2), r(0, 2))), [][]Read{nil, {{0, 0}}}, true},
		{"two keys of one", row(ops(w(5, 1), w(2, 2)), ops(r(5, 1), r(2, 2))), [][]Read{nil, {{2, 0}, {5, 0}}}, true},
		{"keys of all", row(ops(w(5, 1)), ops(w(4, 2)), ops(r(5, 1), r(63, 0), r(0, 0), r(4, 2))), [][]Read{nil, nil, {{0, -1}, {4, 1}, {5, 0}, {63, -1}}}, true},
		{"each of the other one", row(ops(w(0, 1), r(1, 2)), ops(w(1, 2), r(0, 1))), [][]Read{{{1, 1}}, {{0, 0}}}, true},
		{"a wrong one among right ones", row(ops(w(0, 1), w(0, 2)), ops(r(0, 1)), ops(r(0, 2)), ops(r(0, 0))), [][]Read{nil, {{0, 0}}, {{0, 0}}, {{0, -1}}}, false},
	}
	for _, c := range list {
		got, e := Of(c.h)
		if e != api.OK {
			t.Fatal(c.what, e)
		}
		var from rel.Rel
		for i, l := range c.reads {
			for _, read := range l {
				from.Add(read.From, i)
			}
		}
		if !slices.EqualFunc(got.Reads, c.reads, slices.Equal[[]Read]) || got.From != from || got.Sound != c.sound {
			t.Errorf("%s: %v, %v, not %v, %v", c.what, got.Reads, got.Sound, c.reads, c.sound)
		}
	}
}

func TestP8_3Rivals(t *testing.T) {
	h := row(ops(w(0, 1), w(3, 2)), ops(w(0, 3), r(3, 2)), ops(w(3, 4), w(3, 5)), ops(r(0, 1)), ops(w(9, 6)), ops(w(0, 7), w(3, 8), w(8, 9)))
	o, _ := Of(h)
	for i, want := range []set.Set{set.Of(1, 2, 5), set.Of(0, 5), set.Of(0, 5), 0, 0, set.Of(0, 1, 2), 0, 0} {
		if got := o.Rivals(i); got != want {
			t.Errorf("Rivals(%d) = %v, not %v", i, got.List(), want.List())
		}
	}
	var alike []api.Txn
	for i := range 64 {
		alike = append(alike, alone(i, w(63, i+1)))
	}
	o, _ = Of(alike)
	for i := range 64 {
		if got := o.Rivals(i); got != set.Below(64).Without(i) {
			t.Errorf("Rivals(%d) of 64 = %v", i, got.List())
		}
	}
}

func TestP8_3RivalsOfMixed(t *testing.T) {
	numbers := []int{math.MinInt, -1 << 32, -64, -1, 64, 65, 1 << 32, math.MaxInt}
	for i := range 64 {
		numbers = append(numbers, i)
	}
	for k, h := range mixedHistories() {
		if len(h) > 10 && k%10 > 0 {
			continue
		}
		o, _ := Of(h)
		for _, i := range numbers {
			if i > len(h) && i < 60 {
				continue
			}
			if got, want := o.Rivals(i), rivals(h, i); got != want {
				t.Fatalf("Rivals(%d) of %v = %v, not %v", i, h, got.List(), want.List())
			}
		}
	}
}

// P2: what is handed in stays as it was, its spare room too; what is answered is apart, and the same each time; Rivals changes nothing.
func TestP2Apart(t *testing.T) {
	made, want := named()
	room := append(slices.Clone(made), of(1, 1, 1), of(2, 2, 2))
	for i := range made {
		room[i].Ops = append(slices.Clone(made[i].Ops), w(77, 78), w(79, 80))[:len(made[i].Ops)]
	}
	was := history.Copy(room)
	for range 100 {
		o, e := Of(room[:5])
		other, _ := Of(room[:5])
		if e != api.OK || len(differ(o, want)) > 0 || o.Rivals(0) != set.Of(2) || o.Rivals(2) != set.Of(0) {
			t.Fatal("another answer", o, e)
		}
		for i := range o.Keys {
			_ = append(o.Keys[i], 50, 51, 52)
			_ = append(o.Reads[i], Read{50, 50}, Read{51, 51}, Read{52, 52})
		}
		if len(differ(o, want)) > 0 {
			t.Fatal("two lists of one answer share memory", o)
		}
		clear(o.Writers)
		for i := range o.Keys {
			clear(o.Keys[i])
			clear(o.Reads[i])
		}
		clear(o.Keys)
		clear(o.Reads)
		if len(differ(other, want)) > 0 {
			t.Fatal("two answers share memory", other)
		}
		if !history.Same(room, was) || !slices.Equal(room[0].Ops[:6], append(slices.Clone(made[0].Ops), w(77, 78), w(79, 80))) {
			t.Fatal("what was handed in is changed", room)
		}
	}
	// What follows is kept apart from what it follows of.
	o, _ := Of(room[:5])
	for i := range room {
		clear(room[i].Ops)
	}
	clear(room)
	if len(differ(o, want)) > 0 {
		t.Error("what was handed in is kept", o)
	}
}

// P1: every call ends without a panic, at whatever numbers, and at many of them.
func TestP1NoPanic(t *testing.T) {
	numbers := []int{math.MinInt, -1 << 32, -65, -1, 0, 1, 63, 64, 1 << 31, math.MaxInt}
	var odd []api.Txn
	for _, a := range numbers {
		for _, b := range numbers {
			odd = append(odd, of(a, b, a, w(a, b), r(b, a), r(a, a)), of(a%64, 0, 1, r(b, 0)), of(b, a, b))
		}
	}
	all := [][]api.Txn{odd, odd[:60], make([]api.Txn, 1<<16), {alone(0, make([]api.Op, 1<<18)...)}}
	for i := range odd {
		all = append(all, odd[i:i+1])
	}
	for i, h := range all {
		o, e := Of(h)
		if e != history.Check(h) || (o == nil) == (e == api.OK) {
			t.Error("Of", i, o, e)
		}
		for _, n := range numbers {
			if o != nil {
				o.Rivals(n)
			}
		}
	}
}
