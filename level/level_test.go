package level

import (
	"math"
	"strings"
	"testing"

	"burgage/api"
)

// told: the document's table of levels, by their numbers: their names, and what they ask, bit by bit.
var told = []struct {
	name string
	asks []int
}{
	{"read-atomic", nil},
	{"session-atomic", []int{1}},
	{"causal", []int{1, 2}},
	{"update", []int{1, 8}},
	{"prefix", []int{1, 4}},
	{"parallel", []int{1, 2, 8}},
	{"snapshot", []int{1, 4, 8}},
	{"serial", []int{1, 16}},
	{"time-causal", []int{32, 2}},
	{"time-prefix", []int{32, 4}},
	{"time-snapshot", []int{32, 4, 8}},
	{"strict", []int{32, 16}},
}

// strange: numbers that no level has, the nearest and the farthest ones, and ones whose lowest bits a level has.
func strange() []api.Level {
	l := []api.Level{math.MinInt, math.MinInt + 1, math.MinInt32, math.MaxInt32, math.MaxInt - 1, math.MaxInt}
	for n := api.Level(1); n <= 300; n++ {
		l = append(l, -n, 11+n)
	}
	for shift := 4; shift < 63; shift++ {
		for n := range api.Level(12) {
			l = append(l, 1<<shift+n, -1<<shift+n)
		}
	}
	var wrong []api.Level
	for _, x := range l {
		if x < 0 || x > 11 {
			wrong = append(wrong, x)
		}
	}
	return wrong
}

// sum: some numbers together.
func sum(l []int) int {
	all := 0
	for _, n := range l {
		all += n
	}
	return all
}

func TestP9_1Bits(t *testing.T) {
	for i, bit := range []int{Session, Transitive, Prefix, Rivals, Total, Time} {
		if bit != []int{1, 2, 4, 8, 16, 32}[i] {
			t.Errorf("the bit %d is %d", i, bit)
		}
	}
}

func TestP9_1Numbers(t *testing.T) {
	all := []api.Level{ReadAtomic, SessionAtomic, Causal, Update, PrefixLevel, Parallel, Snapshot, Serial, TimeCausal, TimePrefix, TimeSnapshot, Strict}
	for i, l := range all {
		if int(l) != i {
			t.Errorf("the level %s is %d", told[i].name, l)
		}
	}
	if len(all) != Many || Many != 12 {
		t.Error("Many", Many)
	}
}

func TestP9_1OfLevels(t *testing.T) {
	for i, x := range told {
		l := api.Level(i)
		if !Is(l) {
			t.Errorf("Is(%d) = false", l)
		}
		if got := Asks(l); got != sum(x.asks) {
			t.Errorf("Asks(%d) = %d, not %d", l, got, sum(x.asks))
		}
		if got := Name(l); got != x.name {
			t.Errorf("Name(%d) = %q, not %q", l, got, x.name)
		}
		if got, ok := Of(x.name); got != l || !ok {
			t.Errorf("Of(%q) = %d, %v, not %d", x.name, got, ok, l)
		}
	}
}

func TestP9_1OfStrangeNumbers(t *testing.T) {
	for _, l := range strange() {
		if Is(l) || Asks(l) != 0 || Name(l) != "" {
			t.Errorf("Is(%d) = %v, Asks %d, Name %q", l, Is(l), Asks(l), Name(l))
		}
	}
}

func TestP9_1OfStrangeNames(t *testing.T) {
	names := []string{"", " ", "-", "0", "x", "\x00", "\xff", "level", "atomic", "time", "read", "session", "transitive", "rivals", "total", "PrefixLevel", "time-serial", "time-parallel", "time-update", "read-atomic session-atomic"}
	for _, x := range told {
		n := x.name
		names = append(names, strings.ToUpper(n), strings.ToUpper(n[:1])+n[1:], n[1:], n[:len(n)-1], n+" ", " "+n, n+"\n", n+"\x00", n+n, "time-time-"+n)
		if strings.Contains(n, "-") {
			names = append(names, strings.ReplaceAll(n, "-", " "), strings.ReplaceAll(n, "-", "_"), strings.ReplaceAll(n, "-", ""), strings.ReplaceAll(n, "-", "--"))
		}
	}
	for _, name := range names {
		if l, ok := Of(name); l != 0 || ok {
			t.Errorf("Of(%q) = %d, %v", name, l, ok)
		}
	}
}

// TestP9_1OfOneByteOff: of each name with one byte changed no level is called so.
func TestP9_1OfOneByteOff(t *testing.T) {
	for _, x := range told {
		for i := range len(x.name) {
			for c := range 256 {
				name := x.name[:i] + string([]byte{byte(c)}) + x.name[i+1:]
				if l, ok := Of(name); name != x.name && (l != 0 || ok) {
					t.Errorf("Of(%q) = %d, %v", name, l, ok)
				}
			}
		}
	}
}

// follows: what follows of what, as the document tells it: each pair is a bit, and one that follows of it.
var follows = [][2]int{{16, 4}, {16, 8}, {4, 2}, {32, 1}}

// has: whether asks, from 0 to 63, has a bit, told by dividing alone.
func has(asks, bit int) bool { return asks/bit%2 == 1 }

// done: whether whatever follows of asks, from 0 to 63, is in it.
func done(asks int) bool {
	for _, f := range follows {
		if has(asks, f[0]) && !has(asks, f[1]) {
			return false
		}
	}
	return true
}

// closed: of all bits together that have those of asks, from 0 to 63, and whatever follows of them, the fewest: each other one has these.
func closed(asks int) int {
	for more := range 64 {
		whole := done(more)
		for _, bit := range []int{1, 2, 4, 8, 16, 32} {
			whole = whole && (!has(asks, bit) || has(more, bit))
		}
		// Whoever has more bits than another one is greater, so that the first one is the one of the fewest.
		if whole {
			return more
		}
	}
	return -1
}

func TestP9_2ClosedOfAll(t *testing.T) {
	for asks := range 64 {
		if got := Closed(asks); got != closed(asks) {
			t.Errorf("Closed(%d) = %d, not %d", asks, got, closed(asks))
		}
	}
}

func TestP9_2ClosedNamed(t *testing.T) {
	cases := [][2]int{
		{0, 0},
		{Session, Session},
		{Transitive, Transitive},
		{Rivals, Rivals},
		{Prefix, Prefix | Transitive},
		{Total, Total | Prefix | Rivals | Transitive},
		{Time, Time | Session},
		{Time | Total, 63},
		{63, 63},
		{Asks(Strict), 63},
		{Asks(Serial), 31},
		{Asks(TimeSnapshot), 47},
		{Asks(TimePrefix), 39},
		{Asks(TimeCausal), 35},
		{Asks(Snapshot), 15},
		{Asks(Parallel), 11},
		{Asks(PrefixLevel), 7},
		{Asks(Update), 9},
		{Asks(Causal), 3},
		{Asks(SessionAtomic), 1},
		{Asks(ReadAtomic), 0},
	}
	for _, c := range cases {
		if got := Closed(c[0]); got != c[1] {
			t.Errorf("Closed(%d) = %d, not %d", c[0], got, c[1])
		}
	}
}

// TestP9_2ClosedOfOtherBits: the bits from 64 on are of no matter, the sign's one neither.
func TestP9_2ClosedOfOtherBits(t *testing.T) {
	high := []int{64, 128, 64 + 128, 1 << 31, 1 << 32, 1 << 62, math.MinInt, math.MinInt + 64, -64, -128, math.MaxInt - 63}
	for shift := 6; shift < 63; shift++ {
		high = append(high, 1<<shift, -1<<shift)
	}
	for _, h := range high {
		for asks := range 64 {
			if got := Closed(h + asks); got != closed(asks) {
				t.Errorf("Closed(%d) = %d, not %d", h+asks, got, closed(asks))
			}
		}
	}
	if Closed(-1) != 63 || Closed(math.MaxInt) != 63 {
		t.Error("Closed of all bits", Closed(-1), Closed(math.MaxInt))
	}
}

// P1 and P2: every call ends without a panic, and its answer hangs on its arguments alone, whatever was called ahead.
func TestP1P2Calls(t *testing.T) {
	long := strings.Repeat("read-atomic", 1<<16)
	for range 3 {
		for _, l := range append(strange(), 0, 11) {
			Is(l)
			Asks(l)
			Name(l)
			Closed(int(l))
		}
		if l, ok := Of(long); l != 0 || ok {
			t.Error("Of a long name", l, ok)
		}
		TestP9_1OfLevels(t)
		TestP9_2ClosedOfAll(t)
	}
}
