package rel

import (
	"math"
	"slices"
	"testing"

	"burgage/set"
)

// outside: numbers that can't stand to anything, the nearest and the farthest ones.
var outside = []int{math.MinInt, -1 << 32, -64, -1, 64, 65, 128, 1 << 32, math.MaxInt}

// spots: where the small relations are laid, the edges among them.
var spots = []int{0, 31, 63}

// small: all 512 relations of three numbers.
func small() []Rel {
	var all []Rel
	for bits := range 512 {
		var r Rel
		for i := range 9 {
			if bits>>i&1 == 1 {
				r[spots[i/3]] |= 1 << spots[i%3]
			}
		}
		all = append(all, r)
	}
	return all
}

// large: relations of up to 64 numbers, from sparse to dense, always the same ones; every other one has no way back.
func large() []Rel {
	var all []Rel
	seed := uint64(7)
	next := func(n int) int {
		seed = seed*6364136223846793005 + 1442695040888963407
		return int(seed>>33) % n
	}
	for i := range 60 {
		var r Rel
		for range 1 + i*3 {
			a, b := next(64), next(64)
			// By b*37%64 below a*37%64, so that the order of the sorted isn't the numbers' own.
			if i%2 == 1 && a*37%64 <= b*37%64 {
				continue
			}
			r[a] |= 1 << b
		}
		all = append(all, r)
	}
	var ring, full Rel
	for a := range 64 {
		ring[a] = 1 << ((a + 63) % 64)
		full[a] = math.MaxUint64
	}
	line := ring
	line[17] = 0
	return append(all, Rel{}, ring, line, full)
}

func relations() []Rel { return append(small(), large()...) }

// grid is a relation told without sets.
type grid [64][64]bool

func gridOf(r Rel) grid {
	var g grid
	for a := range 64 {
		for b := range 64 {
			g[a][b] = uint64(r[a])>>b&1 == 1
		}
	}
	return g
}

// reach: where one comes from a in one step or more.
func (g *grid) reach(a int) [64]bool {
	var seen [64]bool
	work := []int{a}
	for len(work) > 0 {
		n := work[0]
		work = work[1:]
		for b := range 64 {
			if g[n][b] && !seen[b] {
				seen[b] = true
				work = append(work, b)
			}
		}
	}
	return seen
}

func (g *grid) acyclic() bool {
	for a := range 64 {
		if g.reach(a)[a] {
			return false
		}
	}
	return true
}

func TestP2_1AddHas(t *testing.T) {
	for _, a := range []int{0, 1, 31, 62, 63} {
		for _, b := range []int{0, 1, 31, 62, 63} {
			r := Rel{5: 9}
			if !r.Add(a, b) || !r.Add(a, b) {
				t.Errorf("Add(%d, %d) is false", a, b)
			}
			want := Rel{5: 9}
			want[a] |= 1 << b
			if r != want {
				t.Errorf("Add(%d, %d): %v", a, b, r)
			}
		}
		for _, out := range outside {
			r := Rel{5: 9, 63: 1 << 63}
			before := r
			if r.Add(a, out) || r.Add(out, a) || r.Add(out, out) || r != before {
				t.Errorf("Add of %d and %d", a, out)
			}
			full := Rel{}
			for i := range full {
				full[i] = math.MaxUint64
			}
			if full.Has(a, out) || full.Has(out, a) || full.Has(out, out) {
				t.Errorf("Has of %d and %d", a, out)
			}
		}
	}
	for _, r := range relations() {
		g := gridOf(r)
		for a := range 64 {
			for b := range 64 {
				if r.Has(a, b) != g[a][b] {
					t.Fatalf("%v.Has(%d, %d) = %v", r, a, b, r.Has(a, b))
				}
			}
		}
	}
}

// pairs: the relations one by one, each with two others.
func pairs(do func(r, t Rel)) {
	all := relations()
	for i, r := range all {
		do(r, all[(i*7+3)%len(all)])
		do(r, all[len(all)-1-i])
	}
}

func TestP2_1UnionThenWithin(t *testing.T) {
	pairs(func(r, s Rel) {
		g, h := gridOf(r), gridOf(s)
		var union, then grid
		within := true
		for a := range 64 {
			for b := range 64 {
				union[a][b] = g[a][b] || h[a][b]
				within = within && (!g[a][b] || h[a][b])
				for c := range 64 {
					then[a][c] = then[a][c] || g[a][b] && h[b][c]
				}
			}
		}
		if gridOf(r.Union(s)) != union {
			t.Fatalf("%v.Union(%v)", r, s)
		}
		if gridOf(r.Then(s)) != then {
			t.Fatalf("%v.Then(%v)", r, s)
		}
		if r.Within(s) != within {
			t.Fatalf("%v.Within(%v) = %v", r, s, r.Within(s))
		}
		if !r.Within(r.Union(s)) || !r.Within(r) || !(Rel{}).Within(r) {
			t.Fatalf("%v isn't within itself and another one", r)
		}
	})
}

func TestP2_1Turned(t *testing.T) {
	for _, r := range relations() {
		g := gridOf(r)
		var want grid
		for a := range 64 {
			for b := range 64 {
				want[b][a] = g[a][b]
			}
		}
		if gridOf(r.Turned()) != want {
			t.Fatalf("%v.Turned()", r)
		}
	}
}

func TestP2_1Chain(t *testing.T) {
	rows := [][]int{nil, {}, {0}, {63}, {5, 3, 9}, {5, 3, 64, 9, -1}, {64, -1, 5}, {1, 1}, {1, 2, 1}, {4, -1, 4}, {0, 63, 31, 0, 7}, outside}
	for _, row := range rows {
		var want grid
		for i, a := range row {
			for _, b := range row[i+1:] {
				if 0 <= a && a < 64 && 0 <= b && b < 64 {
					want[a][b] = true
				}
			}
		}
		if got := Chain(row...); gridOf(got) != want {
			t.Errorf("Chain(%v) = %v", row, got)
		}
	}
}

func TestP2_2ClosureAcyclic(t *testing.T) {
	for _, r := range relations() {
		g := gridOf(r)
		closure := r.Closure()
		for a := range 64 {
			seen := g.reach(a)
			for b := range 64 {
				if closure[a].Has(b) != seen[b] {
					t.Fatalf("%v.Closure(): %d to %d is %v", r, a, b, !seen[b])
				}
			}
		}
		if r.Acyclic() != g.acyclic() {
			t.Fatalf("%v.Acyclic() = %v", r, r.Acyclic())
		}
	}
}

func TestP2_2Cycle(t *testing.T) {
	// What leads to the cycle, and away from it, isn't of it.
	tail := Rel{0: 1 << 1, 1: 1<<2 | 1<<9, 2: 1 << 63, 63: 1<<2 | 1<<5, 5: 1 << 6}
	for _, r := range append(relations(), tail) {
		g := gridOf(r)
		row := r.Cycle()
		if (len(row) == 0) != g.acyclic() {
			t.Fatalf("%v.Cycle() = %v", r, row)
		}
		for i, n := range row {
			if !g[n][row[(i+1)%len(row)]] || slices.Index(row, n) != i {
				t.Fatalf("%v.Cycle() = %v", r, row)
			}
		}
	}
}

// sorted: the row of P2.3, told plainly.
func (g *grid) sorted(of set.Set) ([]int, bool) {
	left := map[int]bool{}
	for n := range 64 {
		if uint64(of)>>n&1 == 1 {
			left[n] = true
		}
	}
	row := []int{}
	for len(left) > 0 {
		least := -1
		for n := 63; n >= 0; n-- {
			free := left[n]
			for a := range left {
				free = free && !g[a][n]
			}
			if free {
				least = n
			}
		}
		if least < 0 {
			return nil, false
		}
		row = append(row, least)
		delete(left, least)
	}
	return row, true
}

func TestP2_3Sorted(t *testing.T) {
	for _, r := range relations() {
		g := gridOf(r)
		sets := []set.Set{0, 1, 1 << 63, 1<<31 | 1, 1<<63 | 1, 1<<63 | 1<<31, 1<<63 | 1<<31 | 1, math.MaxUint64, math.MaxUint32, 0xf0f0f0f0f0f0f0f0}
		for _, of := range sets {
			want, ok := g.sorted(of)
			got, yes := r.Sorted(of)
			if yes != ok || !slices.Equal(got, want) {
				t.Fatalf("%v.Sorted(%v) = %v, %v, not %v, %v", r, of, got, yes, want, ok)
			}
		}
	}
}

func TestP2_3SortedByHand(t *testing.T) {
	r := Rel{0: 1 << 2, 2: 1 << 1, 8: 1 << 8, 9: 1 << 10, 10: 1 << 9}
	cases := []struct {
		of   set.Set
		want []int
		ok   bool
	}{
		{0, nil, true},
		{7, []int{0, 2, 1}, true},
		{3, []int{0, 1}, true},
		{6, []int{2, 1}, true},
		{1<<5 | 7, []int{0, 2, 1, 5}, true},
		{1 << 8, nil, false},
		{1<<8 | 7, nil, false},
		{1<<9 | 1<<10, nil, false},
		{1 << 9, []int{9}, true},
		{1<<10 | 7, []int{0, 2, 1, 10}, true},
	}
	for _, c := range cases {
		if got, ok := r.Sorted(c.of); ok != c.ok || !slices.Equal(got, c.want) {
			t.Errorf("Sorted(%v) = %v, %v", c.of, got, ok)
		}
	}
}

// P2, rule 4: a relation stays as it was, and so does a row, its spare room too.
func TestP2ArgumentsStay(t *testing.T) {
	pairs(func(r, s Rel) {
		r1, s1 := r, s
		r.Union(s)
		r.Then(s)
		r.Turned()
		r.Closure()
		r.Acyclic()
		r.Within(s)
		r.Sorted(math.MaxUint64)
		r.Cycle()
		if r != r1 || s != s1 {
			t.Fatalf("changed: %v, %v", r1, s1)
		}
	})
	room := []int{5, 64, 3, -1, 77, 78}
	Chain(room[:4]...)
	if !slices.Equal(room, []int{5, 64, 3, -1, 77, 78}) {
		t.Error("Chain changed what was handed in", room)
	}
}

// P2, rule 4: two answers share nothing, with the relation neither.
func TestP2AnswersAreApart(t *testing.T) {
	line := Chain(4, 2, 7)
	row, _ := line.Sorted(set.Of(2, 4, 7))
	row = append(row, 9)
	row[0] = 50
	if again, ok := line.Sorted(set.Of(2, 4, 7)); !ok || !slices.Equal(again, []int{4, 2, 7}) {
		t.Error("Sorted shares memory", again)
	}
	ring := line
	ring.Add(7, 4)
	first := ring.Cycle()
	second := ring.Cycle()
	kept := slices.Clone(second)
	for i := range first {
		first[i] = 50
	}
	if !slices.Equal(second, kept) || !slices.Equal(ring.Cycle(), kept) {
		t.Error("Cycle shares memory", second, kept)
	}
	closure := line.Closure()
	closure.Add(60, 61)
	union := line.Union(Rel{})
	union.Add(61, 60)
	if line != Chain(4, 2, 7) {
		t.Error("an answer shares memory with the relation")
	}
}

// P1: every call ends without a panic, at numbers far out, at long rows, and where there is no relation to add to.
func TestP1NoPanic(t *testing.T) {
	many := make([]int, 1<<16)
	for i := range many {
		many[i] = i - 1<<15
	}
	want := Rel{}
	for a := range 63 {
		want[a] = math.MaxUint64 << (a + 1)
	}
	if Chain(many...) != want {
		t.Error("Chain of a long row")
	}
	var none *Rel
	if none.Add(0, 1) || none.Add(-1, 64) {
		t.Error("Add to no relation")
	}
	for _, r := range large() {
		for _, a := range outside {
			for _, b := range outside {
				r.Add(a, b)
				r.Has(a, b)
				Chain(a, b)
			}
		}
		r.Cycle()
		r.Acyclic()
		r.Sorted(math.MaxUint64)
	}
}
