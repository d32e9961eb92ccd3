package txn

import (
	"math"
	"slices"
	"strconv"
	"strings"
	"testing"

	"burgage/api"
)

// r, w: a read and a write.
func r(key, value int) api.Op { return api.Op{Key: key, Value: value} }

func w(key, value int) api.Op { return api.Op{Write: true, Key: key, Value: value} }

// of: a transaction that may be of some operations.
func of(ops ...api.Op) api.Txn { return api.Txn{Begin: 1, Commit: 2, Ops: ops} }

// small: all rows of up to so many of some operations.
func small(of []api.Op, long int) [][]api.Op {
	all := [][]api.Op{nil}
	for from := 0; long > 0; long-- {
		to := len(all)
		for _, l := range all[from:to] {
			for _, o := range of {
				all = append(all, append(slices.Clone(l), o))
			}
		}
		from = to
	}
	return all
}

// cases: all small rows of operations of two keys, and mixed long ones of many keys.
func cases() [][]api.Op {
	all := small([]api.Op{r(0, 0), r(0, 1), r(0, 2), w(0, 1), w(0, 2), r(7, 0), r(7, 1), w(7, 1), w(7, 2)}, 4)
	all = append(all, small([]api.Op{r(5, 0), r(5, 1), w(5, 1), w(5, 2)}, 6)...)
	mixed := uint64(1)
	next := func(below int) int {
		mixed = mixed*6364136223846793005 + 1442695040888963407
		return int(mixed>>33) % below
	}
	for range 3000 {
		var l []api.Op
		many, keys := 1+next(80), 1+next(64)
		for range many {
			l = append(l, api.Op{Write: next(2) == 0, Key: next(keys), Value: 1 + next(3)})
		}
		all = append(all, l)
	}
	return all
}

// ahead: the places of the operations of the key of the one at i that are ahead of it.
func ahead(l []api.Op, i int) []int {
	var places []int
	for j := range i {
		if l[j].Key == l[i].Key {
			places = append(places, j)
		}
	}
	return places
}

// steady: what Steady is to answer, told read by read.
func steady(l []api.Op) bool {
	for i, o := range l {
		before := ahead(l, i)
		if !o.Write && len(before) > 0 && l[before[len(before)-1]].Value != o.Value {
			return false
		}
	}
	return true
}

// reads, writes: what Reads and Writes are to answer, told key by key.
func reads(l []api.Op) []api.Op {
	var out []api.Op
	for key := range 64 {
		for i, o := range l {
			if o.Key == key && !o.Write && len(ahead(l, i)) == 0 {
				out = append(out, o)
			}
		}
	}
	return out
}

func writes(l []api.Op) []api.Op {
	var out []api.Op
	for key := range 64 {
		var last []api.Op
		for _, o := range l {
			if o.Key == key && o.Write {
				last = []api.Op{o}
			}
		}
		out = append(out, last...)
	}
	return out
}

func TestP5_1RightOfSessions(t *testing.T) {
	if MaxSessions != 64 || MaxOps != 64 {
		t.Error("the limits", MaxSessions, MaxOps)
	}
	for _, n := range []int{math.MinInt, -1 << 32, -64, -1, 0, 1, 62, 63, 64, 65, 128, 1 << 32, math.MaxInt} {
		x := of(r(0, 0))
		x.Session = n
		if got, want := Right(x), n >= 0 && n <= 63; got != want {
			t.Errorf("Right of the session %d = %v", n, got)
		}
	}
}

func TestP5_1RightOfStamps(t *testing.T) {
	stamps := []int{math.MinInt, -1 << 31, -2, -1, 0, 1, 2, 3, 2147483645, 2147483646, 2147483647, 2147483648, 2147483649, 1 << 32, 1<<32 + 1, math.MaxInt}
	for i, begin := range stamps {
		for k, commit := range stamps {
			x := api.Txn{Begin: begin, Commit: commit, Ops: []api.Op{w(0, 1)}}
			// 4 is the place of 0 in stamps, 10 that of 2^31 - 1.
			want := i >= 4 && i < k && k <= 10
			if got := Right(x); got != want {
				t.Errorf("Right of the stamps %d, %d = %v", begin, commit, got)
			}
		}
	}
}

func TestP5_1RightOfOps(t *testing.T) {
	for many := range 140 {
		x := of(make([]api.Op, many)...)
		if got, want := Right(x), many >= 1 && many <= 64; got != want {
			t.Errorf("Right of %d operations = %v", many, got)
		}
	}
	if Right(api.Txn{Begin: 1, Commit: 2}) {
		t.Error("Right of no operations")
	}
	right := []api.Op{r(0, 0), r(63, 0), r(0, 2147483647), w(0, 1), w(63, 2147483647)}
	wrong := []api.Op{w(0, 0), w(63, 0), r(-1, 0), r(64, 0), w(-1, 1), w(64, 1), r(0, -1), w(0, -1), r(0, 2147483648), w(0, 2147483648), r(math.MinInt, math.MaxInt)}
	for many := 1; many <= 64; many++ {
		for place := range many {
			x := of(make([]api.Op, many)...)
			for i, o := range append(slices.Clone(right), wrong...) {
				x.Ops[place] = o
				if got, want := Right(x), i < len(right); got != want {
					t.Fatalf("Right of %d operations, the one at %d of which is %v = %v", many, place, o, got)
				}
			}
		}
	}
	// What is written, read or kept to is of no matter here.
	for _, l := range [][]api.Op{{w(0, 1), r(0, 2)}, {w(0, 1), w(0, 1)}, {r(0, 5), r(0, 6)}, {w(1, 7), w(2, 7)}} {
		if !Right(of(l...)) {
			t.Errorf("Right of %v = false", l)
		}
	}
}

func TestP5_2Named(t *testing.T) {
	list := []struct {
		ops           []api.Op
		steady        bool
		reads, writes []api.Op
	}{
		{nil, true, nil, nil},
		{[]api.Op{r(3, 0), w(3, 5), r(3, 5)}, true, []api.Op{r(3, 0)}, []api.Op{w(3, 5)}},
		{[]api.Op{r(3, 9)}, true, []api.Op{r(3, 9)}, nil},
		{[]api.Op{w(3, 9)}, true, nil, []api.Op{w(3, 9)}},
		{[]api.Op{w(3, 9), r(3, 9)}, true, nil, []api.Op{w(3, 9)}},
		{[]api.Op{w(3, 9), r(3, 0)}, false, nil, []api.Op{w(3, 9)}},
		{[]api.Op{r(3, 1), r(3, 1)}, true, []api.Op{r(3, 1)}, nil},
		{[]api.Op{r(3, 1), r(3, 2)}, false, []api.Op{r(3, 1)}, nil},
		{[]api.Op{r(3, 1), r(4, 2)}, true, []api.Op{r(3, 1), r(4, 2)}, nil},
		{[]api.Op{r(3, 0), r(3, 1)}, false, []api.Op{r(3, 0)}, nil},
		{[]api.Op{w(3, 1), w(3, 2), r(3, 1)}, false, nil, []api.Op{w(3, 2)}},
		{[]api.Op{w(3, 1), w(3, 2), r(3, 2)}, true, nil, []api.Op{w(3, 2)}},
		{[]api.Op{w(3, 1), r(4, 0), r(3, 1)}, true, []api.Op{r(4, 0)}, []api.Op{w(3, 1)}},
		{[]api.Op{w(3, 1), w(4, 2), r(3, 2)}, false, nil, []api.Op{w(3, 1), w(4, 2)}},
		{[]api.Op{r(3, 1), w(3, 2), r(3, 1)}, false, []api.Op{r(3, 1)}, []api.Op{w(3, 2)}},
		{[]api.Op{r(3, 2), w(3, 2), r(3, 2)}, true, []api.Op{r(3, 2)}, []api.Op{w(3, 2)}},
		{[]api.Op{w(63, 1), w(0, 2), r(62, 3), r(1, 4)}, true, []api.Op{r(1, 4), r(62, 3)}, []api.Op{w(0, 2), w(63, 1)}},
	}
	for _, c := range list {
		x := of(c.ops...)
		if got := Steady(x); got != c.steady {
			t.Errorf("Steady of %v = %v", c.ops, got)
		}
		if got := Reads(x); !slices.Equal(got, c.reads) {
			t.Errorf("Reads of %v = %v, not %v", c.ops, got, c.reads)
		}
		if got := Writes(x); !slices.Equal(got, c.writes) {
			t.Errorf("Writes of %v = %v, not %v", c.ops, got, c.writes)
		}
	}
}

func TestP5_2All(t *testing.T) {
	for _, l := range cases() {
		x := of(l...)
		if got := Steady(x); got != steady(l) {
			t.Fatalf("Steady of %v = %v", l, got)
		}
		if got := Reads(x); !slices.Equal(got, reads(l)) {
			t.Fatalf("Reads of %v = %v, not %v", l, got, reads(l))
		}
		if got := Writes(x); !slices.Equal(got, writes(l)) {
			t.Fatalf("Writes of %v = %v, not %v", l, got, writes(l))
		}
	}
}

// It is promised of all transactions whose operations may be, however the rest of them is, and however many there are.
func TestP5_2OfWrongTxns(t *testing.T) {
	l := make([]api.Op, 5000)
	for i := range l {
		l[i] = api.Op{Write: i%3 == 0, Key: (i * 29) % 64, Value: i + 1}
	}
	for _, x := range []api.Txn{{Ops: l}, {Session: -1, Begin: 9, Commit: 3, Ops: l}, {Session: 64, Begin: -5, Commit: math.MaxInt, Ops: l}} {
		if Steady(x) != steady(l) || !slices.Equal(Reads(x), reads(l)) || !slices.Equal(Writes(x), writes(l)) {
			t.Error("another answer of a wrong transaction", x.Session, x.Begin, x.Commit)
		}
	}
}

func TestP5_3Text(t *testing.T) {
	list := []struct {
		x    api.Txn
		want string
	}{
		{api.Txn{}, "txn 0 0 0\n"},
		{api.Txn{Session: 1, Begin: 2, Commit: 3, Ops: []api.Op{r(0, 7)}}, "txn 1 2 3\nr 0 7\n"},
		{api.Txn{Session: 63, Begin: 0, Commit: 2147483647, Ops: []api.Op{w(63, 2147483647), r(3, 0), w(3, 5)}}, "txn 63 0 2147483647\nw 63 2147483647\nr 3 0\nw 3 5\n"},
		{api.Txn{Session: -1, Begin: -20, Commit: math.MinInt64, Ops: []api.Op{w(1, 1), w(1, 1)}}, "txn -1 -20 -9223372036854775808\nw 1 1\nw 1 1\n"},
	}
	for _, c := range list {
		if got := Text(c.x); got != c.want {
			t.Errorf("Text(%v) = %q, not %q", c.x, got, c.want)
		}
	}
	for i, l := range cases() {
		want := "txn " + strconv.Itoa(i%64) + " " + strconv.Itoa(i) + " " + strconv.Itoa(2*i+1) + "\n"
		for _, o := range l {
			first := "r "
			if o.Write {
				first = "w "
			}
			want += first + strconv.Itoa(o.Key) + " " + strconv.Itoa(o.Value) + "\n"
		}
		if got := Text(api.Txn{Session: i % 64, Begin: i, Commit: 2*i + 1, Ops: l}); got != want {
			t.Fatalf("Text of %v = %q, not %q", l, got, want)
		}
	}
}

// P2, rule 4: what is handed in stays as it was, its spare room too, and what is answered is apart, and is the same each time.
func TestP2Apart(t *testing.T) {
	room := []api.Op{r(60, 1), w(60, 2), r(9, 3), r(9, 3), w(2, 4), w(2, 5), r(1, 6), w(40, 7), r(77, 78), w(79, 80)}
	was := slices.Clone(room)
	x := of(room[:8]...)
	for range 200 {
		steady, right, text := Steady(x), Right(x), Text(x)
		if !steady || !right || text != "txn 0 1 2\nr 60 1\nw 60 2\nr 9 3\nr 9 3\nw 2 4\nw 2 5\nr 1 6\nw 40 7\n" {
			t.Fatal("another answer", steady, right, text)
		}
		for _, f := range []func(api.Txn) []api.Op{Reads, Writes} {
			one, other := f(x), f(x)
			if !slices.Equal(one, other) || len(one) != 3 {
				t.Fatal("another answer", one, other)
			}
			for i := range one {
				one[i] = r(50, 50)
			}
			one = append(one[:1], w(51, 51), w(52, 52), w(53, 53))
			if !slices.Equal(other, f(x)) {
				t.Fatal("two answers share memory", other)
			}
		}
		if !slices.Equal(room, was) {
			t.Fatal("what was handed in is changed", room)
		}
	}
}

// P1: every call ends without a panic, at operations that may not be, and at many of them.
func TestP1NoPanic(t *testing.T) {
	numbers := []int{math.MinInt, -1 << 32, -65, -64, -1, 0, 1, 63, 64, 65, 1 << 31, 1 << 32, math.MaxInt}
	var all []api.Op
	for _, key := range numbers {
		for _, value := range numbers {
			all = append(all, r(key, value), w(key, value))
		}
	}
	many := make([]api.Op, 1<<18)
	for i := range many {
		many[i] = api.Op{Write: i%2 == 0, Key: i - 1<<17, Value: -i}
	}
	for _, n := range numbers {
		for _, l := range [][]api.Op{nil, all, many} {
			x := api.Txn{Session: n, Begin: n, Commit: -n, Ops: l}
			Right(x)
			Steady(x)
			Reads(x)
			Writes(x)
			if n == 0 {
				Text(x)
			}
		}
	}
	if got := Text(of(slices.Repeat([]api.Op{r(0, 1)}, 1<<18)...)); got != "txn 0 1 2\n"+strings.Repeat("r 0 1\n", 1<<18) {
		t.Error("Text of many operations has", len(got), "bytes")
	}
}
