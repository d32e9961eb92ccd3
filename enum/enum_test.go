package enum

import (
	"math"
	"slices"
	"testing"

	"burgage/api"
	"burgage/canon"
	"burgage/history"
	"burgage/sample"
	"burgage/script"
)

// wide: bounds that bound nothing.
var wide = Bounds{64, 64, 64, 64}

// all: the texts of what Each hands over, in its order; each is Of of itself, of just so many transactions and operations, within the bounds, and comes once, and Count says how many they are.
func all(t *testing.T, b Bounds, txns, ops int) []string {
	t.Helper()
	var texts []string
	seen := map[string]bool{}
	for h := range Each(b, txns, ops) {
		text := script.Print(h)
		if seen[text] || !canon.Is(h) || len(h) != txns || history.Ops(h) != ops || !within(h, b) {
			t.Fatalf("Each(%v, %d, %d): %q", b, txns, ops, text)
		}
		seen[text] = true
		texts = append(texts, text)
	}
	if many := Count(b, txns, ops); many != len(texts) {
		t.Fatalf("Count(%v, %d, %d) = %d, not %d", b, txns, ops, many, len(texts))
	}
	return texts
}

// within: is a history within bounds?
func within(h []api.Txn, b Bounds) bool {
	own := bounds(h)
	return own.Sessions <= max(b.Sessions, 0) && own.Txns <= max(b.Txns, 0) && own.Ops <= max(b.Ops, 0) && own.Keys <= max(b.Keys, 0)
}

// bounds: the least ones within which a history is.
func bounds(h []api.Txn) Bounds {
	sessions, keys := map[int]bool{}, map[int]bool{}
	for _, t := range h {
		sessions[t.Session] = true
		for _, o := range t.Ops {
			keys[o.Key] = true
		}
	}
	return Bounds{len(sessions), len(h), history.Ops(h), len(keys)}
}

// check: holds what Each hands over against texts, whatever their order.
func check(t *testing.T, b Bounds, txns, ops int, want []string) {
	t.Helper()
	got := all(t, b, txns, ops)
	slices.Sort(got)
	want = slices.Sorted(slices.Values(want))
	if !slices.Equal(got, want) {
		t.Errorf("Each(%v, %d, %d): %d, not %d: %q, not %q", b, txns, ops, len(got), len(want), got, want)
	}
}

func TestP23_1ByHand(t *testing.T) {
	one := []string{
		"r 0 0\nr 0 0\n", "r 0 0\nw 0 1\n", "r 0 1\nw 0 1\n", "w 0 1\nr 0 0\n", "w 0 1\nr 0 1\n", "w 0 1\nw 0 2\n",
	}
	two := append(slices.Clone(one), "r 0 0\nr 1 0\n", "r 0 0\nw 1 1\n", "w 0 1\nr 1 0\n", "w 0 1\nw 1 2\n")
	under := func(first, between string, rows []string) []string {
		var l []string
		for _, row := range rows {
			l = append(l, first+row[:6]+between+row[6:])
		}
		return l
	}
	check(t, wide, 0, 0, []string{""})
	check(t, wide, 1, 1, []string{"txn 0 0 1\nr 0 0\n", "txn 0 0 1\nw 0 1\n"})
	check(t, Bounds{1, 1, 2, 1}, 1, 2, under("txn 0 0 1\n", "", one))
	check(t, Bounds{1, 1, 2, 2}, 1, 2, under("txn 0 0 1\n", "", two))
	check(t, Bounds{1, 2, 2, 1}, 2, 2, under("txn 0 0 1\n", "txn 0 2 3\n", one))
	check(t, Bounds{2, 2, 2, 2}, 2, 2, slices.Concat(
		under("txn 0 0 1\n", "txn 0 2 3\n", two),
		under("txn 0 0 1\n", "txn 1 2 3\n", two),
		under("txn 0 0 2\n", "txn 1 1 3\n", two),
		under("txn 0 0 3\n", "txn 1 1 2\n", two),
	))
	// Of three operations two are of the one transaction, or of the other one.
	split := 0
	for _, text := range all(t, Bounds{1, 2, 3, 1}, 2, 3) {
		h, _, _ := script.Parse(text)
		split += len(h[0].Ops)
	}
	if many := Count(Bounds{1, 1, 3, 1}, 1, 3); split != 3*many || many != 1+3*4+3*3+1 {
		t.Error("of three operations", split, many)
	}
}

// The edges of the bounds, and numbers that none can have.
func TestP23_1Edges(t *testing.T) {
	far := sample.Far()
	cases := []struct {
		b         Bounds
		txns, ops int
		many      int
	}{
		{Bounds{}, 0, 0, 1}, {Bounds{}, 0, 1, 0}, {Bounds{}, 1, 0, 0}, {Bounds{}, 1, 1, 0},
		{Bounds{-1, -1, -1, -1}, 0, 0, 1}, {Bounds{-1, -1, -1, -1}, -1, -1, 0}, {Bounds{math.MinInt, math.MinInt, math.MinInt, math.MinInt}, 0, 0, 1},
		{Bounds{1, 1, 1, 1}, 1, 1, 2}, {Bounds{0, 1, 1, 1}, 1, 1, 0}, {Bounds{1, 0, 1, 1}, 1, 1, 0}, {Bounds{1, 1, 0, 1}, 1, 1, 0}, {Bounds{1, 1, 1, 0}, 1, 1, 0},
		{Bounds{-1, 1, 1, 1}, 1, 1, 0}, {Bounds{1, -1, 1, 1}, 1, 1, 0}, {Bounds{1, 1, -1, 1}, 1, 1, 0}, {Bounds{1, 1, 1, -1}, 1, 1, 0},
		{Bounds{2, 1, 2, 2}, 2, 2, 0}, {Bounds{2, 2, 1, 2}, 2, 2, 0}, {Bounds{2, 2, 2, 2}, 2, 2, 40}, {Bounds{1, 2, 2, 2}, 2, 2, 10}, {Bounds{2, 2, 2, 1}, 2, 2, 24},
		{wide, 0, 1, 0}, {wide, 0, 64, 0}, {wide, 1, 0, 0}, {wide, 64, 0, 0}, {wide, 2, 1, 0}, {wide, 64, 63, 0}, {wide, 65, 64, 0}, {wide, 65, 65, 0}, {wide, 1, 65, 0}, {wide, 64, 65, 0},
		{wide, -1, -1, 0}, {wide, -1, 0, 0}, {wide, 0, -1, 0}, {wide, -1, 1, 0}, {wide, 1, -1, 0},
		{Bounds{0, 64, 64, 64}, 64, 64, 0}, {Bounds{64, 64, 64, 0}, 64, 64, 0}, {Bounds{64, 0, 64, 64}, 64, 64, 0}, {Bounds{64, 64, 0, 64}, 64, 64, 0},
		{Bounds{0, 64, 64, 0}, 0, 0, 1}, {Bounds{0, 64, 64, 64}, 1, 64, 0},
	}
	for _, n := range far {
		for _, k := range append(far, 0, 1) {
			if n != 64 || k != 64 {
				cases = append(cases, struct {
					b         Bounds
					txns, ops int
					many      int
				}{wide, n, k, 0})
			}
		}
	}
	for _, c := range cases {
		if got := all(t, c.b, c.txns, c.ops); len(got) != c.many {
			t.Errorf("Each(%v, %d, %d): %d, not %d", c.b, c.txns, c.ops, len(got), c.many)
		}
	}
}

// raw: all histories of so many transactions and operations, by names from 0 on that may be there at all, that are Of of themselves.
func raw(txns, ops int) []string {
	var texts []string
	for _, rest := range cuts(txns, ops) {
		for _, row := range rawRows(ops) {
			for _, stamps := range sample.Rows(2 * txns) {
				if txns > 0 && stamps[0] > stamps[1] {
					continue
				}
				for sessions := range power(txns, txns) {
					h := make([]api.Txn, txns)
					at := 0
					for i := range h {
						h[i] = api.Txn{Session: sessions / power(txns, i) % txns, Begin: stamps[2*i], Commit: stamps[2*i+1], Ops: row[at : at+rest[i]]}
						at += rest[i]
					}
					if canon.Is(h) {
						texts = append(texts, script.Print(h))
					}
				}
			}
		}
	}
	return texts
}

// cuts: all rows of so many numbers above 0 whose sum is another number.
func cuts(many, sum int) [][]int {
	if many == 0 {
		if sum == 0 {
			return [][]int{nil}
		}
		return nil
	}
	var all [][]int
	for last := 1; last <= sum; last++ {
		for _, cut := range cuts(many-1, sum-last) {
			all = append(all, append(cut, last))
		}
	}
	return all
}

// rawRows: all rows of so many operations of keys below that number, and values up to it.
func rawRows(ops int) [][]api.Op {
	all := [][]api.Op{nil}
	for range ops {
		var next [][]api.Op
		for _, row := range all {
			for key := range ops {
				for value := range ops + 1 {
					next = append(next, append(slices.Clone(row), api.Op{Key: key, Value: value}), append(slices.Clone(row), api.Op{Write: true, Key: key, Value: value}))
				}
			}
		}
		all = next
	}
	return all
}

func power(n, many int) int {
	p := 1
	for range many {
		p *= n
	}
	return p
}

// P23.1, P23.2: all histories by names that may be there, one by one, against what is handed over.
func TestP23All(t *testing.T) {
	for _, c := range [][2]int{{0, 0}, {1, 0}, {0, 1}, {1, 1}, {1, 2}, {1, 3}, {2, 1}, {2, 2}, {2, 3}} {
		check(t, wide, c[0], c[1], raw(c[0], c[1]))
	}
}

// rowsOf: how many rows of so many operations of so many keys at most, by the least names, there are: where it is known what is a write, and of which key, each read has all writes of the key, and 0, to choose of.
func rowsOf(ops, keys int) int {
	many := 0
	for kinds := range 1 << ops {
		for names := range power(keys, ops) {
			next, product := 0, 1
			var writes, reads [8]int
			for i := range ops {
				key := names / power(keys, i) % keys
				if key > next {
					product = 0
				}
				next = max(next, key+1)
				if kinds>>i&1 == 1 {
					writes[key]++
				} else {
					reads[key]++
				}
			}
			for key := range keys {
				product *= power(writes[key]+1, reads[key])
			}
			many += product
		}
	}
	return many
}

// framesOf: in how many ways so many transactions of so many sessions at most begin and end, by the least names.
func framesOf(txns, sessions int) int {
	many := 0
	for _, stamps := range sample.Rows(2 * txns) {
		var h []api.Txn
		for i := range txns {
			h = append(h, api.Txn{Begin: stamps[2*i], Commit: stamps[2*i+1], Ops: []api.Op{{}}})
		}
		if !slices.IsSortedFunc(h, func(a, b api.Txn) int { return a.Begin - b.Begin }) {
			continue
		}
		for names := range power(sessions, txns) {
			for i := range h {
				h[i].Session = names / power(sessions, i) % sessions
			}
			if canon.Is(h) {
				many++
			}
		}
	}
	return many
}

// More transactions and operations: what is handed over are Of of themselves and unlike, so that it is enough to hold how many they are against what is counted otherwise.
func TestP23More(t *testing.T) {
	frames := map[[2]int]int{}
	for txns := 1; txns <= 3; txns++ {
		for sessions := 1; sessions <= 3; sessions++ {
			frames[[2]int{txns, sessions}] = framesOf(txns, sessions)
		}
	}
	for txns := 1; txns <= 3; txns++ {
		for sessions := 1; sessions <= 3; sessions++ {
			for ops := txns; ops <= 6; ops++ {
				for keys := 1; keys <= 4; keys++ {
					want := frames[[2]int{txns, sessions}] * len(cuts(txns, ops)) * rowsOf(ops, keys)
					b := Bounds{sessions, txns, ops, keys}
					if got := Count(b, txns, ops); got != want {
						t.Fatalf("Count(%v) = %d, not %d", b, got, want)
					}
					if want <= 40000 {
						all(t, b, txns, ops)
					}
				}
			}
		}
	}
	if got := Count(Bounds{4, 4, 4, 1}, 4, 4); got != framesOf(4, 4)*rowsOf(4, 1) {
		t.Error("Count of four transactions", got)
	}
}

// Of each bounds it is just what is within them.
func TestP23_1Bounds(t *testing.T) {
	for _, c := range [][2]int{{0, 0}, {1, 1}, {1, 3}, {2, 2}, {2, 3}, {3, 3}} {
		var most [][]api.Txn
		for h := range Each(wide, c[0], c[1]) {
			most = append(most, h)
		}
		for i := range 4 * 5 * 5 * 5 {
			b := Bounds{i%5 - 1, i / 5 % 5, i / 25 % 5, i/125%5 - 1}
			many := 0
			for _, h := range most {
				if within(h, b) {
					many++
				}
			}
			if i%3 != 0 && many > 0 {
				if got := Count(b, c[0], c[1]); got != many {
					t.Fatalf("Count(%v, %v) = %d, not %d", b, c, got, many)
				}
				continue
			}
			if got := all(t, b, c[0], c[1]); len(got) != many {
				t.Fatalf("Each(%v, %v): %d, not %d", b, c, len(got), many)
			}
		}
	}
}

// mixed: a history of few transactions, operations and keys, that may be, whatever it reads, by names of all kinds.
func mixed(m *sample.Mixed) []api.Txn {
	for {
		h := make([]api.Txn, 1+m.Next(3))
		names, keys := 1+m.Next(1000), 1+m.Next(3)
		for i := range h {
			begin := m.Next(2000)
			h[i] = api.Txn{Session: m.Next(3) * 20, Begin: begin, Commit: begin + 1 + m.Next(1500)}
		}
		ops := len(h) + m.Next(6-len(h))
		for place := range ops {
			o := api.Op{Key: m.Next(keys) * 31, Value: m.Next(ops+1) * names}
			if m.Next(2) == 0 {
				o = api.Op{Write: true, Key: o.Key, Value: (ops - place) * names}
			}
			at := place
			if place >= len(h) {
				at = m.Next(len(h))
			}
			h[at].Ops = append(h[at].Ops, o)
		}
		if history.Check(h) == api.OK {
			return h
		}
	}
}

// P23.2: of whatever history may be that one of the same is handed over, by the least bounds within which it is, and by greater ones.
func TestP23_2OfMixed(t *testing.T) {
	m := sample.Mixed(1)
	known := map[Bounds]map[string]bool{}
	unlike := map[string]bool{}
	for range 6000 {
		h := mixed(&m)
		least := bounds(h)
		if least.Txns == 3 && least.Ops == 5 && least.Keys == 3 {
			continue
		}
		greater := Bounds{min(least.Sessions+m.Next(2), 3), least.Txns, least.Ops, min(least.Keys+m.Next(2), 2)}
		for _, b := range []Bounds{least, greater} {
			if !within(h, b) {
				continue
			}
			if known[b] == nil {
				known[b] = map[string]bool{}
				for x := range Each(b, b.Txns, b.Ops) {
					known[b][script.Print(x)] = true
				}
			}
			text := script.Print(canon.Of(h))
			if unlike[text] = true; !known[b][text] {
				t.Fatalf("Each(%v) leaves out %q", b, text)
			}
		}
	}
	if len(unlike) < 2000 || len(known) < 40 {
		t.Error("the mixed ones are too much alike", len(unlike), len(known))
	}
}

// Each may be gone on with wherever it was broken off, begins anew each time, also within itself, and has the same order always.
func TestP23_1Again(t *testing.T) {
	b := Bounds{2, 3, 4, 2}
	each := Each(b, 2, 3)
	want := all(t, b, 2, 3)
	from := func(each func(yield func(h []api.Txn) bool), most int) []string {
		var texts []string
		for h := range each {
			if texts = append(texts, script.Print(h)); len(texts) == most {
				break
			}
		}
		return texts
	}
	for most := 1; most <= len(want); most += 1 + most/5 {
		if !slices.Equal(from(each, most), want[:most]) || !slices.Equal(from(Each(b, 2, 3), most), want[:most]) {
			t.Fatal("another order", most)
		}
	}
	at := 0
	for h := range each {
		if !slices.Equal(from(each, 3), want[:3]) || at%50 == 0 && !slices.Equal(from(each, -1), want) || script.Print(h) != want[at] {
			t.Fatal("another order within itself", at)
		}
		at++
	}
	if at != len(want) || len(want) < 300 {
		t.Error("it ended early", at, len(want))
	}
}

// Whoever wants no more isn't asked again, wherever that is.
func TestP23_1NoMore(t *testing.T) {
	for _, c := range [][2]int{{0, 0}, {1, 1}, {1, 3}, {2, 3}, {3, 3}} {
		b := Bounds{2, 3, 3, 2}
		for most := 1; most <= Count(b, c[0], c[1])+1; most++ {
			asked := 0
			Each(b, c[0], c[1])(func([]api.Txn) bool {
				asked++
				return asked < most
			})
			if asked != min(most, Count(b, c[0], c[1])) {
				t.Fatal("asked", asked, "times, not", most, c)
			}
		}
	}
}

// The greatest numbers that are promised: what comes first of them is there at once.
func TestP23_1Great(t *testing.T) {
	for _, c := range [][2]int{{64, 64}, {1, 64}, {32, 64}, {63, 64}, {20, 30}} {
		seen := map[string]bool{}
		for h := range Each(wide, c[0], c[1]) {
			if !canon.Is(h) || len(h) != c[0] || history.Ops(h) != c[1] {
				t.Fatalf("Each: %q", script.Print(h))
			}
			if seen[script.Print(h)] = true; len(seen) == 300 {
				break
			}
		}
		if len(seen) != 300 {
			t.Error("too few", c, len(seen))
		}
	}
}

// P2: what is handed over is new memory: of each history, and of each list in it.
func TestP2Apart(t *testing.T) {
	b := Bounds{2, 2, 4, 2}
	want := all(t, b, 2, 4)
	var kept [][]api.Txn
	for h := range Each(b, 2, 4) {
		kept = append(kept, h)
	}
	for i, h := range kept {
		if script.Print(h) != want[i] {
			t.Fatal("it is changed", i)
		}
		_ = append(h[0].Ops, api.Op{Key: 9}, api.Op{Key: 9}, api.Op{Key: 9})
		clear(h[0].Ops)
		if second, _, _ := script.Parse(want[i]); !slices.Equal(h[1].Ops, second[1].Ops) {
			t.Fatal("two lists share memory", i)
		}
		_ = append(h[1].Ops, api.Op{Key: 9}, api.Op{Key: 9}, api.Op{Key: 9})
		clear(h[1].Ops)
		_ = append(h, make([]api.Txn, 3)...)
		clear(h)
	}
	at := 0
	for h := range Each(b, 2, 4) {
		if script.Print(h) != want[at] {
			t.Fatal("another answer", at)
		}
		at++
		for i := range h {
			clear(append(h[i].Ops, make([]api.Op, 5)...))
			clear(h[i].Ops)
		}
		clear(append(h, make([]api.Txn, 5)...))
		clear(h)
	}
	if at != len(want) || Count(b, 2, 4) != at {
		t.Error("it ended early", at)
	}
}

// P1: every call ends without a panic, at bounds far out, too.
func TestP1NoPanic(t *testing.T) {
	far := append(sample.Far(), 0, 1, 2)
	for _, s := range far {
		for _, n := range far {
			for _, k := range far {
				for _, c := range [][2]int{{0, 0}, {1, 1}, {2, 2}, {2, 3}, {n, k}, {k, n}, {s, s}, {1, n}, {n, 1}} {
					for _, b := range []Bounds{{s, n, k, 2}, {2, s, n, k}, {k, 2, s, n}, {n, k, 3, s}} {
						handed := 0
						for range Each(b, c[0], c[1]) {
							if handed++; handed == 5 {
								break
							}
						}
						if c[0] <= 2 && c[1] <= 3 && (Count(b, c[0], c[1]) > 0) != (handed > 0) {
							t.Fatal("Count", b, c)
						}
					}
				}
			}
		}
	}
}
