package set

import (
	"math"
	"slices"
	"testing"
)

// outside: numbers that can't be in a set, the nearest and the farthest ones.
var outside = []int{math.MinInt, -1 << 32, -64, -2, -1, 64, 65, 128, 1 << 32, math.MaxInt}

// sets: the empty set, the full one, ones of one number, and mixed ones.
func sets() []Set {
	all := []Set{0, ^Set(0), 0x5555555555555555, 0xaaaaaaaaaaaaaaaa, 0x8000000000000001, 10, 0xffff0000, 1<<63 | 10}
	for n := range 64 {
		all = append(all, 1<<n)
	}
	mixed := Set(1)
	for range 200 {
		mixed = mixed*6364136223846793005 + 1442695040888963407
		all = append(all, mixed)
	}
	return all
}

// in: whether the bit n of s is set, told by halving alone.
func in(s Set, n int) bool {
	for range n {
		s /= 2
	}
	return s%2 == 1
}

// numbers: what is in s, by in.
func numbers(s Set) []int {
	var l []int
	for n := range 64 {
		if in(s, n) {
			l = append(l, n)
		}
	}
	return l
}

func TestP1_1Of(t *testing.T) {
	cases := []struct {
		l    []int
		want Set
	}{
		{nil, 0},
		{[]int{}, 0},
		{[]int{0}, 1},
		{[]int{63}, 1 << 63},
		{[]int{3, 1, 64}, 10},
		{[]int{3, 1, 3, 1, 3}, 10},
		{[]int{-1, 64, math.MinInt, math.MaxInt, -64, 128}, 0},
		{[]int{-1, 5, 64, 0, 65}, 33},
	}
	for _, c := range cases {
		if got := Of(c.l...); got != c.want {
			t.Errorf("Of(%v) = %#x, not %#x", c.l, got, c.want)
		}
	}
	for _, s := range sets() {
		l := numbers(s)
		slices.Reverse(l)
		if got := Of(l...); got != s {
			t.Errorf("Of(%v) = %#x, not %#x", l, got, s)
		}
	}
}

func TestP1_1Below(t *testing.T) {
	for n := -70; n <= 140; n++ {
		s := Below(n)
		for k := range 64 {
			if in(s, k) != (k < n) {
				t.Errorf("Below(%d) = %#x, wrong for %d", n, s, k)
			}
		}
	}
	for _, n := range outside {
		want := Set(0)
		if n > 0 {
			want = math.MaxUint64
		}
		if got := Below(n); got != want {
			t.Errorf("Below(%d) = %#x", n, got)
		}
	}
}

func TestP1_1HasWithWithout(t *testing.T) {
	for _, s := range sets() {
		for n := range 64 {
			if s.Has(n) != in(s, n) {
				t.Errorf("%#x.Has(%d) = %v", s, n, s.Has(n))
			}
			with, without := s.With(n), s.Without(n)
			for k := range 64 {
				if in(with, k) != (in(s, k) || k == n) {
					t.Errorf("%#x.With(%d) = %#x", s, n, with)
				}
				if in(without, k) != (in(s, k) && k != n) {
					t.Errorf("%#x.Without(%d) = %#x", s, n, without)
				}
			}
		}
		for _, n := range outside {
			if s.Has(n) || s.With(n) != s || s.Without(n) != s {
				t.Errorf("%#x with %d: Has %v, With %#x, Without %#x", s, n, s.Has(n), s.With(n), s.Without(n))
			}
		}
	}
}

func TestP1_2CountFirstList(t *testing.T) {
	if Most != 64 {
		t.Error("Most", Most)
	}
	for _, s := range sets() {
		want := numbers(s)
		if got := s.List(); !slices.Equal(got, want) {
			t.Errorf("%#x.List() = %v, not %v", s, got, want)
		}
		if got := s.Count(); got != len(want) {
			t.Errorf("%#x.Count() = %d, not %d", s, got, len(want))
		}
		first := 64
		if len(want) > 0 {
			first = want[0]
		}
		if got := s.First(); got != first {
			t.Errorf("%#x.First() = %d, not %d", s, got, first)
		}
	}
}

func TestP1_2Within(t *testing.T) {
	all := sets()
	for _, a := range all {
		for _, b := range append(all, a, a.With(7), a.Without(a.First())) {
			want := true
			for n := range 64 {
				want = want && (!in(a, n) || in(b, n))
			}
			if got := a.Within(b); got != want {
				t.Errorf("%#x.Within(%#x) = %v", a, b, got)
			}
		}
	}
}

// P2, rule 4: what is handed in stays as it was, its spare room too, and no list is handed out twice.
func TestP2ListsAreApart(t *testing.T) {
	room := []int{3, 64, 1, -1, 77, 78}
	if got := Of(room[:4]...); got != 10 {
		t.Errorf("Of = %#x", got)
	}
	if !slices.Equal(room, []int{3, 64, 1, -1, 77, 78}) {
		t.Error("Of changed what was handed in", room)
	}
	s := Of(1, 3, 63)
	first, second := s.List(), s.List()
	first = append(first, 9)
	first[0] = 50
	if !slices.Equal(second, []int{1, 3, 63}) || !slices.Equal(s.List(), []int{1, 3, 63}) {
		t.Error("two lists share memory", second, s.List())
	}
}

// P1: every call ends without a panic, at numbers far out and at many of them.
func TestP1NoPanic(t *testing.T) {
	many := make([]int, 1<<16)
	for i := range many {
		many[i] = i - 1<<15
	}
	if got := Of(many...); got != ^Set(0) {
		t.Errorf("Of many = %#x", got)
	}
	for _, s := range sets() {
		for _, n := range append([]int{0, 63}, outside...) {
			Below(n)
			s.Has(n)
			s.With(n)
			s.Without(n)
			s.Within(Set(n))
		}
		s.Count()
		s.First()
		s.List()
	}
}
