// Package sample makes histories, orders, and what is seen, for the tests of the other packages: no layer calls it.
package sample

import (
	"maps"
	"math"
	"slices"

	"burgage/api"
	"burgage/order"
	"burgage/rel"
	"burgage/script"
)

// Test is what a test is to these calls: they end it, where what it made is wrong.
type Test interface {
	Helper()
	Fatal(l ...any)
}

// Follow: the Orders of a history that may be.
func Follow(t Test, h []api.Txn) *order.Orders {
	t.Helper()
	o, e := order.Of(h)
	if e != api.OK {
		t.Fatal("the history is wrong", h, e)
	}
	return o
}

// Parsed: the Orders of a history that is told as a text.
func Parsed(t Test, text string) *order.Orders {
	t.Helper()
	h, line, e := script.Parse(text)
	if e != api.OK {
		t.Fatal("the text is wrong", line, e)
	}
	return Follow(t, h)
}

// Mixed is numbers that are mixed: behind one beginning always the same ones.
type Mixed uint64

// Next: the next one, from 0 on, below a number.
func (m *Mixed) Next(below int) int {
	*m = *m*6364136223846793005 + 1442695040888963407
	return int(*m>>33) % below
}

// Row: so many numbers, from 0 on, rising, or in a mixed order.
func (m *Mixed) Row(many int) []int {
	var row []int
	rising := m.Next(2) == 0
	for i := range many {
		at := m.Next(i + 1)
		if rising {
			at = i
		}
		row = slices.Insert(row, at, i)
	}
	return row
}

// Vis: a relation by which each of an order sees some of those ahead of it, that keeps some of what may be asked.
func (m *Mixed) Vis(row []int) rel.Rel {
	vis, few := rel.Rel{}, 1+m.Next(4)
	for k, a := range row {
		for _, b := range row[k+1:] {
			if m.Next(4) < few {
				vis.Add(a, b)
			}
		}
	}
	switch m.Next(4) {
	case 0:
		return vis.Closure()
	case 1:
		return vis.Union(rel.Chain(row...).Then(vis))
	}
	return vis
}

// stamped: so many transactions of mixed sessions, at once or not, each with a read of a key that nobody writes to, for each must have an operation.
func (m *Mixed) stamped(txns int) []api.Txn {
	var h []api.Txn
	sessions, length, over := 1+m.Next(4), 1+m.Next(8), map[int]int{}
	for i := range txns {
		begin := 100*i + 100
		s := m.Next(sessions)
		for over[s] > begin {
			s++
		}
		over[s] = begin + 100*m.Next(length) + 1 + i
		h = append(h, api.Txn{Session: s, Begin: begin, Commit: over[s], Ops: []api.Op{{Key: 63}}})
	}
	return h
}

// Right: a history that is Sound, an order of it, and what is seen, by which both are right.
func (m *Mixed) Right(txns, keys int) ([]api.Txn, []int, rel.Rel) {
	h, row := m.stamped(txns), m.Row(txns)
	vis := m.Vis(row)
	m.fill(h, row, vis, keys, 0)
	return h, row, vis
}

// History: one whose transactions read as those of Right do, but for some that read of whomever, so that it needn't be kept by any level, nor be Sound.
func (m *Mixed) History(txns, keys int) []api.Txn {
	h, row := m.stamped(txns), m.Row(txns)
	m.fill(h, row, m.Vis(row), keys, m.Next(3))
	return h
}

// fill: reads and writes of so many keys, by an order, and what is seen; of nine reads so many, about, are of whomever.
func (m *Mixed) fill(h []api.Txn, row []int, vis rel.Rel, keys, wild int) {
	for key := range keys {
		var all, ahead []int
		for _, i := range row {
			if m.Next(3) == 0 {
				all = append(all, i)
			}
		}
		for _, i := range row {
			if m.Next(2) == 0 {
				from := Last(vis, ahead, i)
				if len(all) > 0 && m.Next(9) < wild {
					from = all[m.Next(len(all))]
				}
				h[i].Ops = append(h[i].Ops, Read(key, from))
			}
			if slices.Contains(all, i) {
				ahead = append(ahead, i)
				h[i].Ops = append(h[i].Ops, Write(key, i))
			}
		}
	}
}

// Last: the last one of a row that is seen; -1: none is.
func Last(vis rel.Rel, row []int, i int) int {
	from := -1
	for _, a := range row {
		if vis.Has(a, i) {
			from = a
		}
	}
	return from
}

// Write: a write to a key, by a transaction. Read: a read of it, of what a transaction writes to it; of -1: of what is there at first.
func Write(key, i int) api.Op { return api.Op{Write: true, Key: key, Value: value(key, i)} }

func Read(key, from int) api.Op {
	if from < 0 {
		return api.Op{Key: key}
	}
	return api.Op{Key: key, Value: value(key, from)}
}

// value: what a transaction writes to a key.
func value(key, i int) int { return 64*key + i + 1 }

// Names: other names, or the same ones, for all that is in a history, by which it stays what it is: of keys, sessions, values and stamps, and a row in which its transactions may come.
func (m *Mixed) Names(h []api.Txn) (keys, sessions, values, stamps map[int]int, row []int) {
	var written, all []int
	for i, t := range h {
		all = append(all, t.Begin, t.Commit)
		// It comes behind whoever is ahead of it in its session.
		least := 0
		for k, a := range row {
			if h[a].Session == t.Session {
				least = k + 1
			}
		}
		row = slices.Insert(row, least+m.Next(len(row)-least+1), i)
		for _, o := range t.Ops {
			if o.Write {
				written = append(written, o.Value)
			}
		}
	}
	first, step := 1+m.Next(3), 1+m.Next(1000)*m.Next(1000)
	values = map[int]int{}
	for k, n := range m.Row(len(written)) {
		values[written[k]] = first + step*n
	}
	next := m.Next(3)
	stamps = map[int]int{}
	slices.Sort(all)
	for _, stamp := range all {
		stamps[stamp] = next
		next += 1 + m.Next(5)*m.Next(1000)
	}
	return numbered(m.Row(64)), numbered(m.Row(64)), values, stamps, row
}

// numbered: of each number, from 0 on, what stands there in a row.
func numbered(row []int) map[int]int {
	of := map[int]int{}
	for i, n := range row {
		of[i] = n
	}
	return of
}

// Apart: so many transactions that have nothing to do with each other, of as many sessions, all at once, each of which writes to the key of its number.
func Apart(many int) []api.Txn {
	var h []api.Txn
	for i := range many {
		h = append(h, api.Txn{Session: i % 64, Begin: i, Commit: 100 + i, Ops: []api.Op{Write(i, i)}})
	}
	return h
}

// Chained: as Apart, but that each reads of the one ahead of it in a row.
func Chained(row []int) []api.Txn {
	h := Apart(len(row))
	for k, i := range row {
		if k > 0 {
			h[i].Ops = append(h[i].Ops, Read(row[k-1], row[k-1]))
		}
	}
	return h
}

// Rows: all rows of the numbers from 0 on, so many, number by number the least first.
func Rows(many int) [][]int {
	all := [][]int{nil}
	for i := range many {
		var next [][]int
		for _, row := range all {
			for at := range i + 1 {
				next = append(next, slices.Insert(slices.Clone(row), at, i))
			}
		}
		all = next
	}
	slices.SortFunc(all, slices.Compare)
	return all
}

// Forms: all relations by which each of a row sees some of those ahead of it.
func Forms(row []int) []rel.Rel {
	all := []rel.Rel{{}}
	for k, a := range row {
		for _, b := range row[k+1:] {
			for _, r := range all {
				r.Add(a, b)
				all = append(all, r)
			}
		}
	}
	return all
}

// Pairs: the relation in which the first one of each pair stands to the second one.
func Pairs(l ...[2]int) rel.Rel {
	var r rel.Rel
	for _, p := range l {
		r.Add(p[0], p[1])
	}
	return r
}

// Copied: Orders that share nothing with others.
func Copied(o *order.Orders) *order.Orders {
	c := *o
	c.Writers, c.Keys, c.Reads = maps.Clone(o.Writers), nil, nil
	for i := range o.N {
		c.Keys, c.Reads = append(c.Keys, slices.Clone(o.Keys[i])), append(c.Reads, slices.Clone(o.Reads[i]))
	}
	return &c
}

// Same: are two Orders the same?
func Same(a, b *order.Orders) bool {
	return a.N == b.N && a.Session == b.Session && a.Time == b.Time && a.From == b.From && a.Sound == b.Sound && maps.Equal(a.Writers, b.Writers) &&
		slices.EqualFunc(a.Keys, b.Keys, slices.Equal[[]int]) && slices.EqualFunc(a.Reads, b.Reads, slices.Equal[[]order.Read])
}

// SameWitness: are two witnesses the same? None: is a witness the zero one?
func SameWitness(a, b api.Witness) bool {
	return slices.Equal(a.Order, b.Order) && slices.EqualFunc(a.Sees, b.Sees, slices.Equal[[]int])
}

func None(w api.Witness) bool { return len(w.Order) == 0 && len(w.Sees) == 0 }

// Kept: a witness that shares nothing with another one. Scratch: overwrites a witness, and the room behind its lists.
func Kept(w api.Witness) api.Witness {
	k := api.Witness{Order: slices.Clone(w.Order)}
	for _, seen := range w.Sees {
		k.Sees = append(k.Sees, slices.Clone(seen))
	}
	return k
}

func Scratch(w api.Witness) {
	_ = append(w.Order, 50, 51, 52)
	clear(w.Order)
	for _, seen := range w.Sees {
		_ = append(seen, 50, 51, 52)
		clear(seen)
	}
	_ = append(w.Sees, nil, nil)
	clear(w.Sees)
}

// Far: numbers that no transaction has, no key and no level, the nearest and the farthest ones.
func Far() []int {
	return []int{math.MinInt, math.MinInt + 7, -1 << 32, -64, -1, 64, 65, 128, 1 << 32, 1<<32 + 1, math.MaxInt}
}
