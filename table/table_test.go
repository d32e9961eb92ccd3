package table

import (
	"math"
	"slices"
	"testing"

	"burgage/api"
	"burgage/level"
)

// implied: of each level, by its number, those that it is to imply, by hand.
var implied = [][]api.Level{
	{0},
	{0, 1},
	{0, 1, 2},
	{0, 1, 3},
	{0, 1, 2, 4},
	{0, 1, 2, 3, 5},
	{0, 1, 2, 3, 4, 5, 6},
	{0, 1, 2, 3, 4, 5, 6, 7},
	{0, 1, 2, 8},
	{0, 1, 2, 4, 8, 9},
	{0, 1, 2, 3, 4, 5, 6, 8, 9, 10},
	{0, 1, 2, 3, 4, 5, 6, 7, 8, 9, 10, 11},
}

// strange: numbers that no level has, the nearest and the farthest ones, and ones whose lowest bits a level has.
var strange = []api.Level{math.MinInt, math.MinInt + 7, math.MinInt32, -256, -64, -12, -11, -2, -1, 12, 13, 15, 16, 17, 32, 64, 256, 267, 1 << 32, 1<<32 + 7, math.MaxInt - 1, math.MaxInt}

// numbers: all levels, and strange ones.
func numbers() []api.Level {
	l := slices.Clone(strange)
	for a := range api.Level(12) {
		l = append(l, a)
	}
	return l
}

// implies: what Implies is to answer.
func implies(a, b api.Level) bool {
	return a >= 0 && a < 12 && slices.Contains(implied[a], b)
}

// has: whether asks, from 0 to 63, has a bit, told by dividing alone.
func has(asks, bit int) bool { return asks/bit%2 == 1 }

// missing: what Missing is to answer.
func missing(a, b api.Level) int {
	all := 0
	for _, bit := range []int{1, 2, 4, 8, 16, 32} {
		if has(level.Asks(b), bit) && !has(level.Closed(level.Asks(a)), bit) {
			all += bit
		}
	}
	return all
}

// row: the Row of some levels.
func row(l ...api.Level) Row {
	var r Row
	for _, a := range l {
		r[a] = true
	}
	return r
}

// rows: all there are.
func rows() []Row {
	var all []Row
	for n := range 1 << 12 {
		var r Row
		for i := range r {
			r[i] = has(n, 1<<i)
		}
		all = append(all, r)
	}
	return all
}

// levels: those that are true in a Row, rising.
func levels(r Row) []api.Level {
	var l []api.Level
	for i, yes := range r {
		if yes {
			l = append(l, api.Level(i))
		}
	}
	return l
}

// below: what Below is to answer.
func below(l []api.Level) Row {
	var r Row
	for _, a := range l {
		for b := range api.Level(12) {
			if implies(a, b) {
				r[b] = true
			}
		}
	}
	return r
}

// strongest: what Strongest is to answer.
func strongest(r Row) []api.Level {
	var l []api.Level
	for _, b := range levels(r) {
		if !slices.ContainsFunc(levels(r), func(a api.Level) bool { return a != b && implies(a, b) }) {
			l = append(l, b)
		}
	}
	return l
}

func TestP10_1Implies(t *testing.T) {
	for _, a := range numbers() {
		for _, b := range numbers() {
			if got := Implies(a, b); got != implies(a, b) {
				t.Errorf("Implies(%d, %d) = %v", a, b, got)
			}
		}
	}
}

func TestP10_1Missing(t *testing.T) {
	for _, a := range numbers() {
		for _, b := range numbers() {
			if got := Missing(a, b); got != missing(a, b) {
				t.Errorf("Missing(%d, %d) = %d, not %d", a, b, got, missing(a, b))
			}
		}
	}
}

func TestP10_1MissingNamed(t *testing.T) {
	cases := []struct {
		a, b api.Level
		want int
	}{
		{level.Snapshot, level.Serial, level.Total},
		{level.Serial, level.Strict, level.Time},
		{level.TimeSnapshot, level.Strict, level.Total},
		{level.Parallel, level.Snapshot, level.Prefix},
		{level.PrefixLevel, level.Snapshot, level.Rivals},
		{level.Update, level.Parallel, level.Transitive},
		{level.ReadAtomic, level.SessionAtomic, level.Session},
		{level.ReadAtomic, level.Strict, level.Time | level.Total},
		{level.ReadAtomic, level.TimeSnapshot, level.Time | level.Prefix | level.Rivals},
		{level.Causal, level.TimeCausal, level.Time},
		{level.TimeCausal, level.SessionAtomic, 0},
		{level.PrefixLevel, level.Causal, 0},
		{level.Serial, level.Snapshot, 0},
		{level.Strict, level.Strict, 0},
		{level.ReadAtomic, level.ReadAtomic, 0},
		// What is no level asks nothing, and nothing follows of it.
		{-1, level.Strict, level.Time | level.Total},
		{12, level.Snapshot, level.Session | level.Prefix | level.Rivals},
		{12, level.ReadAtomic, 0},
		{level.Strict, 12, 0},
		{level.ReadAtomic, -1, 0},
		{-1, -1, 0},
		{math.MinInt, math.MaxInt, 0},
	}
	for _, c := range cases {
		if got := Missing(c.a, c.b); got != c.want {
			t.Errorf("Missing(%d, %d) = %d, not %d", c.a, c.b, got, c.want)
		}
	}
}

func TestP10_1All(t *testing.T) {
	for a, r := range All() {
		if want := row(implied[a]...); r != want {
			t.Errorf("All()[%d] = %v, not %v", a, r, want)
		}
	}
	// The document's example: serial implies all levels but the four of time.
	if All()[level.Serial] != (Row{true, true, true, true, true, true, true, true, false, false, false, false}) {
		t.Error("serial", All()[level.Serial])
	}
}

func TestP10_2Closed(t *testing.T) {
	for _, r := range rows() {
		want := true
		for _, a := range levels(r) {
			for _, b := range implied[a] {
				want = want && r[b]
			}
		}
		if got := r.Closed(); got != want {
			t.Fatalf("Closed of %v = %v", levels(r), got)
		}
	}
}

func TestP10_2Strongest(t *testing.T) {
	for _, r := range rows() {
		if got := r.Strongest(); !slices.Equal(got, strongest(r)) {
			t.Fatalf("Strongest of %v = %v, not %v", levels(r), got, strongest(r))
		}
	}
}

func TestP10_2BelowOfAll(t *testing.T) {
	for _, r := range rows() {
		l := levels(r)
		if got := Below(l...); got != below(l) {
			t.Fatalf("Below(%v) = %v, not %v", l, levels(got), levels(below(l)))
		}
		slices.Reverse(l)
		if got := Below(append(l, l...)...); got != below(l) {
			t.Fatalf("Below(%v), twice each, = %v, not %v", l, levels(got), levels(below(l)))
		}
	}
}

func TestP10_2BelowOfStrange(t *testing.T) {
	if Below() != (Row{}) || Below(nil...) != (Row{}) || Below([]api.Level{}...) != (Row{}) || Below(strange...) != (Row{}) {
		t.Error("Below of no level")
	}
	for _, s := range strange {
		for a := range api.Level(12) {
			want := row(implied[a]...)
			if Below(s, a) != want || Below(a, s) != want || Below(s, a, s, a) != want {
				t.Errorf("Below of %d and %d", a, s)
			}
		}
	}
}

func TestP10_2Together(t *testing.T) {
	for _, r := range rows() {
		whole := Below(levels(r)...)
		if !whole.Closed() || (whole == r) != r.Closed() {
			t.Fatalf("Closed of %v, and of what is Below", levels(r))
		}
		if Below(r.Strongest()...) != whole {
			t.Fatalf("Below what is Strongest of %v", levels(r))
		}
	}
}

func TestP10_2Named(t *testing.T) {
	cases := []struct {
		r      Row
		closed bool
		want   []api.Level
	}{
		{Row{}, true, nil},
		{row(level.ReadAtomic), true, []api.Level{level.ReadAtomic}},
		{row(level.Strict), false, []api.Level{level.Strict}},
		{row(0, 1, 2, 3, 4, 5, 6, 7, 8, 9, 10, 11), true, []api.Level{level.Strict}},
		{row(1, 2, 3, 4, 5, 6, 7, 8, 9, 10, 11), false, []api.Level{level.Strict}},
		{row(0, 1, 2, 3, 4, 5, 6, 7, 8, 9, 10), true, []api.Level{level.Serial, level.TimeSnapshot}},
		{row(0, 1, 2, 3, 4), true, []api.Level{level.Update, level.PrefixLevel}},
		{row(0, 1, 2, 3, 8), true, []api.Level{level.Update, level.TimeCausal}},
		{row(3, 4, 8), false, []api.Level{level.Update, level.PrefixLevel, level.TimeCausal}},
		{row(level.ReadAtomic, level.Snapshot), false, []api.Level{level.Snapshot}},
	}
	for _, c := range cases {
		if c.r.Closed() != c.closed || !slices.Equal(c.r.Strongest(), c.want) {
			t.Errorf("%v: Closed %v, Strongest %v", levels(c.r), c.r.Closed(), c.r.Strongest())
		}
	}
}

// P2, rules 3 and 4: what is handed in stays as it was, its spare room too, and no two answers share memory.
func TestP2Apart(t *testing.T) {
	room := []api.Level{level.Serial, 99, level.Update, -1, 77, 78}
	if Below(room[:4]...) != row(implied[level.Serial]...) || !slices.Equal(room, []api.Level{level.Serial, 99, level.Update, -1, 77, 78}) {
		t.Error("Below changed what was handed in", room)
	}
	r := row(0, 1, 2, 3, 4)
	first, second := r.Strongest(), r.Strongest()
	first = append(first, 9)
	first[0], first[1] = 50, 51
	if want := []api.Level{level.Update, level.PrefixLevel}; !slices.Equal(second, want) || !slices.Equal(r.Strongest(), want) || r != row(0, 1, 2, 3, 4) {
		t.Error("two answers of Strongest share memory", second, r.Strongest(), r)
	}
	all := All()
	all[level.Strict], all[level.ReadAtomic][level.Strict] = Row{}, true
	TestP10_1All(t)
	below := Below(level.Strict)
	below[level.ReadAtomic] = false
	if !Below(level.Strict)[level.ReadAtomic] {
		t.Error("two answers of Below share memory")
	}
}

// P1: every call ends without a panic, at many levels and at numbers far out.
func TestP1NoPanic(t *testing.T) {
	many := slices.Repeat(strange, 1<<14)
	if Below(many...) != (Row{}) || Below(append(many, level.Causal)...) != row(0, 1, 2) {
		t.Error("Below of many")
	}
	for _, a := range numbers() {
		for _, b := range numbers() {
			Implies(a, b)
			Missing(a, b)
		}
	}
}
