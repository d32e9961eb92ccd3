package sample

import (
	"slices"
	"testing"

	"burgage/api"
	"burgage/order"
)

// What is made are histories that may be, each time the same ones, and those of Right are Sound.
func TestMixed(t *testing.T) {
	m, again := Mixed(1), Mixed(1)
	unsound := 0
	for n := range 65 {
		right, row, vis := m.Right(n, 1+n%5)
		other, order2, seen := again.Right(n, 1+n%5)
		if !equal(right, other) || !slices.Equal(row, order2) || vis != seen {
			t.Fatal("another history", right, other)
		}
		wild := m.History(n, 1+n%5)
		if !equal(wild, again.History(n, 1+n%5)) {
			t.Fatal("another history", wild)
		}
		for i, h := range [][]api.Txn{right, wild, Apart(n), Chained(row)} {
			o, e := order.Of(h)
			if e != api.OK || i != 1 && !o.Sound {
				t.Fatal("such a history may not be", i, e, h)
			}
			if !o.Sound {
				unsound++
			}
		}
	}
	if unsound == 0 {
		t.Error("all are sound")
	}
}

// equal: whether two histories are the same.
func equal(a, b []api.Txn) bool {
	return slices.EqualFunc(a, b, func(x, y api.Txn) bool {
		return x.Session == y.Session && x.Begin == y.Begin && x.Commit == y.Commit && slices.Equal(x.Ops, y.Ops)
	})
}

func TestRows(t *testing.T) {
	want := []int{1, 1, 2, 6, 24, 120, 720}
	for n, many := range want {
		rows := Rows(n)
		if len(rows) != many || len(slices.CompactFunc(rows, slices.Equal)) != many || !slices.IsSortedFunc(rows, slices.Compare) {
			t.Error("Rows", n)
		}
	}
	if len(Forms([]int{2, 0, 1})) != 8 || len(Forms([]int{3, 2, 1, 0})) != 64 || len(Forms(nil)) != 1 {
		t.Error("Forms")
	}
}
