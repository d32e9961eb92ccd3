package fuel

import (
	"math"
	"math/big"
	"testing"
)

// product: a number times all numbers from 1 to n; 2^62, if that is more.
func product(first, n int64) int {
	p := big.NewInt(first)
	for i := int64(1); i <= n; i++ {
		p.Mul(p, big.NewInt(i))
	}
	if most := new(big.Int).Lsh(big.NewInt(1), 62); p.Cmp(most) > 0 {
		p = most
	}
	return int(p.Int64())
}

func TestP16_1Level(t *testing.T) {
	if Most != 4611686018427387904 {
		t.Error("Most", Most)
	}
	for n := -70; n <= 300; n++ {
		if got, want := Level(n), product(3, int64(n)); got != want {
			t.Errorf("Level(%d) = %d, not %d", n, got, want)
		}
		if got, want := All(n), product(36, int64(n)); got != want {
			t.Errorf("All(%d) = %d, not %d", n, got, want)
		}
	}
}

// The document's example, and both sides of each edge, as numbers.
func TestP16_1Edges(t *testing.T) {
	cases := []struct{ n, level, all int }{
		{math.MinInt, 3, 36}, {-1, 3, 36}, {0, 3, 36}, {1, 3, 36}, {2, 6, 72}, {3, 18, 216}, {4, 72, 864}, {8, 120960, 1451520},
		{18, 19207121117184000, 230485453406208000}, {19, 364935301226496000, 4379223614717952000},
		{20, 1 << 62, 1 << 62}, {21, 1 << 62, 1 << 62}, {64, 1 << 62, 1 << 62}, {1 << 20, 1 << 62, 1 << 62},
	}
	for _, c := range cases {
		if Level(c.n) != c.level || All(c.n) != c.all {
			t.Errorf("of %d: %d, %d, not %d, %d", c.n, Level(c.n), All(c.n), c.level, c.all)
		}
	}
}

// metered: holds what a Meter answers, spent of so often, against what is told of it.
func metered(t *testing.T, fuel, often int) {
	t.Helper()
	m, used, left := New(fuel), 0, max(fuel, 0)
	for range often {
		want := left > 0
		if want {
			used++
		}
		if want && fuel < Most {
			left--
		}
		if got := m.Spend(); got != want || m.Used() != used || m.Left() != min(left, Most) {
			t.Fatalf("of %d: %v, used %d, left %d, not %v, %d, %d", fuel, got, m.Used(), m.Left(), want, used, left)
		}
	}
}

func TestP16_2Spend(t *testing.T) {
	for _, fuel := range []int{math.MinInt, math.MinInt + 1, -Most, -2, -1, 0, 1, 2, 3, 17, 216, 1000, 1 << 20, 1<<31 - 1, 1 << 32, Most - 2, Most - 1, Most, Most + 1, math.MaxInt - 1, math.MaxInt} {
		metered(t, fuel, 1100)
	}
}

func TestP16_2New(t *testing.T) {
	for fuel, want := range map[int]int{math.MinInt: 0, -1: 0, 0: 0, 1: 1, 5: 5, Most - 1: Most - 1, Most: Most, Most + 1: Most, math.MaxInt: Most} {
		if m := New(fuel); m.Used() != 0 || m.Left() != want {
			t.Errorf("New(%d): used %d, left %d, not %d", fuel, m.Used(), m.Left(), want)
		}
	}
}

// Who ran out has used all, and goes on having none, however often it is asked for more.
func TestP16_2RanOut(t *testing.T) {
	m := New(3)
	for k := range 10 {
		if got := m.Spend(); got != (k < 3) {
			t.Error("Spend", k, got)
		}
	}
	if m.Used() != 3 || m.Left() != 0 {
		t.Error("it is used up", m.Used(), m.Left())
	}
	// One below Most is a measure like any other one: the next one below it is left behind one that is used.
	if m := New(Most - 1); !m.Spend() || m.Left() != Most-2 || !m.Spend() || m.Left() != Most-3 || m.Used() != 2 {
		t.Error("one below Most", m.Used(), m.Left())
	}
}

// P2: two Meters are apart, and to look at one uses nothing of it.
func TestP2Apart(t *testing.T) {
	a, b := New(2), New(2)
	if a == b || !a.Spend() || b.Left() != 2 || b.Used() != 0 || !a.Spend() || a.Spend() || !b.Spend() {
		t.Error("they aren't apart")
	}
	for range 5 {
		if b.Left() != 1 || b.Used() != 1 {
			t.Error("looking at it uses it", b.Left(), b.Used())
		}
	}
}

// P1: every call ends without a panic, at whatever numbers.
func TestP1NoPanic(t *testing.T) {
	for _, n := range []int{math.MinInt, math.MinInt + 1, -1 << 32, -1, 0, 1 << 20, 1<<20 + 1, 1 << 32, Most, math.MaxInt - 1, math.MaxInt} {
		if Level(n) < 3 || All(n) < 36 {
			t.Error("of", n, Level(n), All(n))
		}
		m := New(n)
		m.Spend()
		m.Used()
		m.Left()
	}
}
