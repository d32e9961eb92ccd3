package memo

import (
	"math"
	"slices"
	"strconv"
	"testing"

	"burgage/api"
	"burgage/order"
	"burgage/place"
	"burgage/sample"
	"burgage/set"
)

// The bits of what is asked, by their numbers in the document.
const (
	session    = 1
	transitive = 2
	prefix     = 4
	rivalsBit  = 8
	total      = 16
	inTime     = 32
)

// placed: a State of some that come one behind the other; false: one of them may not.
func placed(o *order.Orders, asks int, row ...int) (*place.State, bool) {
	s := place.New(o, asks)
	for _, i := range row {
		if !s.Try(i) {
			return s, false
		}
	}
	return s, true
}

// keyed: the Key of some that come one behind the other.
func keyed(t *testing.T, o *order.Orders, asks int, row ...int) Key {
	t.Helper()
	s, ok := placed(o, asks, row...)
	if !ok {
		t.Fatal("they may not come", row, asks)
	}
	return Of(o, s)
}

// told: what the document tells of the order of those that are placed: those that write, and of each other one how many of these are ahead of it.
func told(o *order.Orders, row []int) string {
	write, others, many := "", make([]string, o.N), 0
	for _, i := range row {
		if len(o.Keys[i]) == 0 {
			others[i] = " " + strconv.Itoa(many)
			continue
		}
		write += " " + strconv.Itoa(i)
		many++
	}
	for i, other := range others {
		write += "," + strconv.Itoa(i) + other
	}
	return write
}

// walk goes through all States of some Orders that ask the same. What may come, one behind the other, is a number in it: two have the same one, if the same may come.
type walk struct {
	o       *order.Orders
	s       *place.State
	numbers map[string]int    // by what may come next, and what behind each of these
	behind  map[Key]int       // of each Key what may come
	keys    map[string]Key    // of what is told of each
	rows    map[Key]int       // how many have it
	ways    map[set.Set][]int // what may come, by who is placed
}

// walked: goes through all, and holds their Keys against what may come behind each, and against what is told of it.
func walked(t *testing.T, o *order.Orders, asks int) *walk {
	w := &walk{o, place.New(o, asks), map[string]int{}, map[Key]int{}, map[string]Key{}, map[Key]int{}, map[set.Set][]int{}}
	w.further(t)
	return w
}

// further: the number of what may come behind those that are placed now.
func (w *walk) further(t *testing.T) int {
	row, what := w.s.Row(), ""
	for i := range w.o.N {
		if w.s.Try(i) {
			what += strconv.Itoa(i) + ":" + strconv.Itoa(w.further(t)) + " "
			w.s.Undo()
		}
	}
	number, there := w.numbers[what]
	if !there {
		number = len(w.numbers)
		w.numbers[what] = number
	}
	w.hold(t, row, number)
	return number
}

// hold: holds the Key of what is placed now against those of the others.
func (w *walk) hold(t *testing.T, row []int, number int) {
	key := Of(w.o, w.s)
	if key.Placed != set.Of(row...) {
		t.Fatal("Placed", key, row)
	}
	if was, there := w.behind[key]; there && was != number {
		t.Fatalf("P15.1: behind %v may not come what may behind another one of its Key: asks %d, %+v", row, w.s.Asks(), w.o)
	}
	seen := told(w.o, row)
	if was, there := w.keys[seen]; there && was != key {
		t.Fatalf("P15.2: %v has another Key than one that is told the same: asks %d, %+v", row, w.s.Asks(), w.o)
	}
	w.behind[key], w.keys[seen] = number, key
	w.rows[key]++
	if !slices.Contains(w.ways[key.Placed], number) {
		w.ways[key.Placed] = append(w.ways[key.Placed], number)
	}
}

// All States of mixed histories of few transactions, whatever is asked.
func TestP15OfMixed(t *testing.T) {
	m := sample.Mixed(1)
	var same, other [64]int
	for i := range 2100 {
		n := i % 7
		if n == 6 && i%5 != 0 {
			continue
		}
		o := sample.Follow(t, m.History(n, 1+m.Next(4)))
		for asks := range 64 {
			w := walked(t, o, asks)
			for _, many := range w.rows {
				same[asks] += many - 1
			}
			for _, numbers := range w.ways {
				other[asks] += len(numbers) - 1
			}
		}
	}
	for asks := range 64 {
		if same[asks] < 2000 || other[asks] < 20 {
			t.Error("the mixed ones are too much alike", asks, same[asks], other[asks])
		}
	}
}

// What may come behind one of two is told by hand: where it isn't the same, the Keys are unlike.
func TestP15_1Unlike(t *testing.T) {
	// 0 and 1 write to one key, 2 reads of 1.
	last := "txn 0 1 20\nw 0 1\ntxn 1 2 21\nw 0 2\ntxn 2 3 22\nr 0 2\n"
	// 2 reads what is there at first of the key of 0, and comes behind 1 in its session, which writes nothing.
	far := "txn 0 1 20\nw 0 1\ntxn 1 2 3\nr 5 0\ntxn 1 4 22\nr 0 0\n"
	// 2 reads of 1, that writes to one of two keys of 0, and what is there at first of the other one.
	long := "txn 0 1 20\nw 0 1\nw 1 2\ntxn 1 2 21\nw 0 3\ntxn 2 3 22\nr 0 3\nr 1 0\n"
	cases := []struct {
		what, text string
		asks       int
		may, not   []int
		next       int
	}{
		{"the last one that writes", last, total, []int{0, 1}, []int{1, 0}, 2},
		{"how many are ahead of one that writes nothing, by Prefix", far, session | prefix, []int{1, 0}, []int{0, 1}, 2},
		{"how many are ahead of one that writes nothing, by Prefix, in time", far, inTime | prefix, []int{1, 0}, []int{0, 1}, 2},
		{"how many are ahead of one that writes nothing, by Prefix and Rivals", far, session | prefix | rivalsBit, []int{1, 0}, []int{0, 1}, 2},
		{"what comes ahead of one that is seen", long, prefix, []int{1, 0}, []int{0, 1}, 2},
		{"what writes to the same key, and is seen by one that is seen", long, transitive | rivalsBit, []int{1, 0}, []int{0, 1}, 2},
	}
	for _, c := range cases {
		o := sample.Parsed(t, c.text)
		a, may := placed(o, c.asks, c.may...)
		b, not := placed(o, c.asks, c.not...)
		if !may || !not || Of(o, a) == Of(o, b) {
			t.Errorf("%s: %v, %v: %v, %v", c.what, may, not, Of(o, a), Of(o, b))
		}
		if !a.Try(c.next) || b.Try(c.next) {
			t.Errorf("%s: the same may come", c.what)
		}
	}
}

// Those that write nothing are free to change places, as long as none that writes comes between.
func TestP15_2Alike(t *testing.T) {
	// 0 and 3 write, 1, 2 and 4 don't; all are of their own sessions, at once.
	o := sample.Parsed(t, "txn 0 1 20\nw 0 1\ntxn 1 2 21\nr 9 0\ntxn 2 3 22\nr 9 0\ntxn 3 4 23\nw 1 2\ntxn 4 5 24\nr 8 0\n")
	alike := [][2][]int{
		{{1, 2}, {2, 1}}, {{1, 2, 4}, {4, 1, 2}}, {{0, 1, 2}, {0, 2, 1}}, {{1, 2, 0}, {2, 1, 0}},
		{{0, 1, 2, 3}, {0, 2, 1, 3}}, {{1, 0, 2, 4, 3}, {1, 0, 4, 2, 3}}, {{2, 4, 0, 3, 1}, {4, 2, 0, 3, 1}},
	}
	for asks := range 64 {
		for _, p := range alike {
			if a, b := keyed(t, o, asks, p[0]...), keyed(t, o, asks, p[1]...); a != b {
				t.Errorf("asks %d: %v, %v: %v, %v", asks, p[0], p[1], a, b)
			}
		}
		none, one, two := keyed(t, o, asks), keyed(t, o, asks, 1), keyed(t, o, asks, 2)
		if none.Placed != 0 || one.Placed != 2 || two.Placed != 4 {
			t.Error("Placed", none, one, two)
		}
	}
}

// rival: 64 transactions at once: 63 reads what the second one of two writes to the key 63, to which both of them write; the others below a number write nothing, those from there on to a key of their own each.
func rival(t *testing.T, two [2]int, first int) *order.Orders {
	h := sample.Apart(64)
	for i := range first {
		h[i].Ops = []api.Op{sample.Read(63, -1)}
	}
	for _, i := range two {
		h[i].Ops = []api.Op{sample.Write(63, i)}
	}
	h[63].Ops = []api.Op{sample.Read(63, two[1])}
	return sample.Follow(t, h)
}

// Of 64 transactions, whether few of them write or nearly all, which of two is the last one matters, whatever their numbers are.
func TestP15_1Wide(t *testing.T) {
	for _, two := range [][2]int{{61, 62}, {62, 61}, {30, 62}, {46, 62}, {54, 62}, {58, 62}, {60, 62}, {0, 32}, {0, 62}, {1, 0}, {16, 0}} {
		for _, first := range []int{0, 1, 30, 61, 63} {
			o := rival(t, two, first)
			others := set.Below(63).Without(two[0]).Without(two[1]).List()
			// Those that read what is there at first of the key come ahead of both.
			a, one := placed(o, total, append(others, two[0], two[1])...)
			b, other := placed(o, total, append(others, two[1], two[0])...)
			x, y := Of(o, a), Of(o, b)
			if !one || !other || x == y || x.Placed != math.MaxInt64 || y.Placed != math.MaxInt64 || !a.Try(63) || b.Try(63) {
				t.Error("the last one that writes", two, first)
			}
			if key := Of(o, a); key == x || key.Placed != math.MaxUint64 {
				t.Error("all are placed", two, first)
			}
		}
	}
}

// 62 of 64 transactions write, one that doesn't comes behind so many of them, and 63, behind that one in its session, reads what is there at first of a key of theirs: by Prefix it depends on how many.
func TestP15_1WideReach(t *testing.T) {
	for key := range 62 {
		h := sample.Apart(64)
		h[62].Ops, h[63].Ops = []api.Op{sample.Read(63, -1)}, []api.Op{sample.Read(key, -1)}
		h[63].Session, h[63].Begin, h[63].Commit = 62, 1000, 1001
		o := sample.Follow(t, h)
		may := map[Key]bool{}
		for many := range 63 {
			s, ok := placed(o, session|prefix, slices.Insert(set.Below(62).List(), many, 62)...)
			k := Of(o, s)
			came := s.Try(63)
			if was, there := may[k]; !ok || came != (many <= key) || there && was != came {
				t.Fatal("so many come ahead", key, many, ok, came)
			}
			may[k] = came
		}
	}
}

// Mixed histories of many transactions: where two next to each other change places so that what is told stays, the Key stays, and where Keys are the same, the same may come, one behind the other.
func TestP15OfMany(t *testing.T) {
	m := sample.Mixed(2)
	same, came, not := 0, 0, 0
	for range 400 {
		n, asks := 16+m.Next(49), m.Next(64)
		h, order, _ := m.Right(n, 1+m.Next(3))
		o := sample.Follow(t, h)
		s, _ := placed(o, asks, order[:m.Next(n)]...)
		for range 4 {
			row := s.Row()
			if len(row) < 2 {
				continue
			}
			for range 1 + m.Next(6) {
				k := m.Next(len(row) - 1)
				row[k], row[k+1] = row[k+1], row[k]
			}
			other, ok := placed(o, asks, row...)
			if !ok {
				continue
			}
			key := Of(o, s)
			if told(o, s.Row()) == told(o, row) && key != Of(o, other) {
				t.Fatalf("P15.2: %v, %v: asks %d, %+v", s.Row(), row, asks, o)
			}
			if key != Of(o, other) {
				continue
			}
			same++
			for range 3 * n {
				i := m.Next(n)
				got, want := other.Try(i), s.Try(i)
				if got != want || Of(o, s).Placed != Of(o, other).Placed {
					t.Fatalf("P15.1: %d may come behind %v: %v, but %v behind %v: asks %d, %+v", i, other.Row(), got, want, s.Row(), asks, o)
				}
				if want {
					came++
				} else {
					not++
				}
			}
			for len(s.Row()) > len(row) {
				s.Undo()
			}
		}
	}
	if same < 200 || came < 1000 || not < 1000 {
		t.Error("the mixed ones are too much alike", same, came, not)
	}
}

// Where those are that write nothing is of no matter, if all that are placed are seen whatever their order is, or nobody is seen for coming ahead of another one.
func TestNoMoreThanMatters(t *testing.T) {
	o := sample.Parsed(t, "txn 0 1 20\nw 0 1\ntxn 1 2 21\nr 9 0\n")
	for asks := range 64 {
		alike := keyed(t, o, asks, 0, 1) == keyed(t, o, asks, 1, 0)
		if alike != (asks&prefix == 0 || asks&total != 0) {
			t.Error("asks", asks, alike)
		}
	}
}

func TestP15_3Add(t *testing.T) {
	long := string(make([]byte, 64))
	keys := []Key{{}, {Placed: 1}, {Order: "\x00"}, {Placed: 1, Order: "\x00"}, {Placed: 3, Order: "\x00\x01"}, {Placed: 3, Order: "\x01\x00"}, {Placed: math.MaxUint64, Order: long}, {Placed: math.MaxUint64, Order: long[1:]}, {Order: "\xff \xfe"}}
	mixed := sample.Mixed(3)
	for _, m := range []Memo{{}, make(Memo), make(map[Key]struct{}, 9)} {
		var there []Key
		for range 300 {
			k := keys[mixed.Next(len(keys))]
			was := slices.Contains(there, k)
			if m.Has(k) != was || m.Add(k) == was || !m.Has(k) || m.Add(k) {
				t.Fatal("Add", k, was)
			}
			if !was {
				there = append(there, k)
			}
			for _, other := range keys {
				if m.Has(other) != slices.Contains(there, other) {
					t.Fatal("Has", other, there)
				}
			}
			if len(m) != len(there) {
				t.Fatal("there are others", len(m), len(there))
			}
		}
	}
}

// A Memo is there to be used from where it stands: another one isn't touched by it, and to ask is not to add.
func TestP15_3Apart(t *testing.T) {
	a, b := Memo{}, Memo{Key{Placed: 5}: {}}
	if a.Has(Key{}) || len(a) != 0 || !a.Add(Key{}) || b.Has(Key{}) || !b.Has(Key{Placed: 5}) || b.Add(Key{Placed: 5}) || len(b) != 1 {
		t.Error("they aren't apart", a, b)
	}
}

// P2: what is handed in stays as it was, the same is answered again, and what was answered stays, whatever becomes of the State.
func TestP2Apart(t *testing.T) {
	m := sample.Mixed(4)
	for range 300 {
		n := 1 + m.Next(7)
		o, asks := sample.Follow(t, m.History(n, 3)), m.Next(64)
		was := sample.Copied(o)
		s := place.New(o, asks)
		for range 3 * n {
			s.Try(m.Next(n))
		}
		row := s.Row()
		a := Of(o, s)
		again, _ := placed(was, asks, row...)
		kept := Key{Placed: a.Placed, Order: string([]byte(a.Order))}
		if Of(o, s) != a || Of(was, again) != a || !slices.Equal(s.Row(), row) || !sample.Same(o, was) {
			t.Fatalf("%v: %+v", row, o)
		}
		for s.Undo() {
		}
		for i := n - 1; i >= 0; i-- {
			s.Try(i)
			Of(o, s)
		}
		if a != kept {
			t.Fatal("what was answered is changed", a, kept)
		}
	}
}

// P1: every call ends without a panic, of a State of other Orders, too, and of a Memo that wasn't made.
func TestP1NoPanic(t *testing.T) {
	m := sample.Mixed(5)
	var all []*order.Orders
	for _, n := range []int{0, 1, 2, 7, 64} {
		all = append(all, sample.Follow(t, m.History(n, 3)), sample.Follow(t, sample.Apart(n)))
	}
	for _, o := range all {
		for _, other := range all {
			for _, asks := range append([]int{0, 1, prefix, 63}, sample.Far()...) {
				s := place.New(other, asks)
				Of(o, s)
				for range 2 * other.N {
					s.Try(m.Next(other.N))
				}
				if Of(o, s).Placed != s.Placed() {
					t.Error("Placed")
				}
			}
		}
	}
	var none Memo
	if none.Has(Key{}) || none.Add(Key{}) || none.Has(Key{}) {
		t.Error("it is there")
	}
}
