package sample

import (
	"maps"
	"slices"
	"testing"

	"burgage/api"
	"burgage/order"
)

// What is made are histories that may be, each time the same ones, and those of Right are Sound.
func TestMixed(t *testing.T) {
	m, again := Mixed(1), Mixed(1)
	unsound := 0
	for n := range 65 {
		right, row, vis := m.Right(n, 1+n%5)
		other, order2, seen := again.Right(n, 1+n%5)
		if !equal(right, other) || !slices.Equal(row, order2) || vis != seen {
			t.Fatal("another history", right, other)
		}
		wild := m.History(n, 1+n%5)
		if !equal(wild, again.History(n, 1+n%5)) {
			t.Fatal("another history", wild)
		}
		for i, h := range [][]api.Txn{right, wild, Apart(n), Chained(row)} {
			o, e := order.Of(h)
			if e != api.OK || i != 1 && !o.Sound {
				t.Fatal("such a history may not be", i, e, h)
			}
			if !o.Sound {
				unsound++
			}
		}
	}
	if unsound == 0 {
		t.Error("all are sound")
	}
}

// equal: whether two histories are the same.
func equal(a, b []api.Txn) bool {
	return slices.EqualFunc(a, b, func(x, y api.Txn) bool {
		return x.Session == y.Session && x.Begin == y.Begin && x.Commit == y.Commit && slices.Equal(x.Ops, y.Ops)
	})
}

// Names keep what a history is: each thing has one of its own, later stamps have later ones, and no session goes back.
func TestNames(t *testing.T) {
	m, again := Mixed(1), Mixed(1)
	bent := 0
	for n := range 65 {
		h := m.History(n, 1+n%5)
		again.History(n, 1+n%5)
		keys, sessions, values, stamps, row := m.Names(h)
		keys2, sessions2, values2, stamps2, row2 := again.Names(h)
		if !maps.Equal(keys, keys2) || !maps.Equal(sessions, sessions2) || !maps.Equal(values, values2) || !maps.Equal(stamps, stamps2) || !slices.Equal(row, row2) {
			t.Fatal("other names", h)
		}
		var x []api.Txn
		for _, i := range row {
			r := api.Txn{Session: sessions[h[i].Session], Begin: stamps[h[i].Begin], Commit: stamps[h[i].Commit]}
			for _, o := range h[i].Ops {
				r.Ops = append(r.Ops, api.Op{Write: o.Write, Key: keys[o.Key], Value: values[o.Value]})
			}
			x = append(x, r)
		}
		if _, e := order.Of(x); e != api.OK || len(row) != n || len(slices.Compact(slices.Sorted(slices.Values(row)))) != n {
			t.Fatal("such a history may not be", e, x)
		}
		for _, names := range []map[int]int{keys, sessions, values, stamps} {
			if len(slices.Compact(slices.Sorted(maps.Values(names)))) != len(names) {
				t.Fatal("two have one name", names)
			}
		}
		for _, a := range slices.Collect(maps.Keys(stamps)) {
			for b, name := range stamps {
				if (a < b) != (stamps[a] < name) {
					t.Fatal("a later stamp is by an earlier name", a, b)
				}
			}
		}
		if !slices.IsSorted(row) {
			bent++
		}
	}
	if bent == 0 {
		t.Error("all come as they are")
	}
}

func TestRows(t *testing.T) {
	want := []int{1, 1, 2, 6, 24, 120, 720}
	for n, many := range want {
		rows := Rows(n)
		if len(rows) != many || len(slices.CompactFunc(rows, slices.Equal)) != many || !slices.IsSortedFunc(rows, slices.Compare) {
			t.Error("Rows", n)
		}
	}
	if len(Forms([]int{2, 0, 1})) != 8 || len(Forms([]int{3, 2, 1, 0})) != 64 || len(Forms(nil)) != 1 {
		t.Error("Forms")
	}
}
