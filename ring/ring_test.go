package ring

import (
	"fmt"
	"math"
	"math/rand"
	"slices"
	"testing"
)

const (
	leastInt = math.MinInt
	mostInt  = math.MaxInt
	least    = math.MinInt64
	greatest = math.MaxInt64
)

// plainRow: a row, as the tests' own list has it.
type plainRow struct {
	j int64
	l []int64
}

// plain: by the chapter's words, what a ring is, as a list of rows, rising.
type plain struct {
	room, width int
	rows        []plainRow
}

// place: where row j stands, or would, among those that are held; is it?
func (p *plain) place(j int64) (int, bool) {
	for i, row := range p.rows {
		if row.j >= j {
			return i, row.j == j
		}
	}
	return len(p.rows), false
}

func (p *plain) put(j int64, l []int64) bool {
	at, has := p.place(j)
	if len(l) != p.width || has {
		return false
	}
	if at == 0 && len(p.rows) == p.room {
		return false
	}
	p.rows = slices.Insert(p.rows, at, plainRow{j, slices.Clone(l)})
	if len(p.rows) > p.room {
		p.rows = p.rows[1:]
	}
	return true
}

func (p *plain) next(from, to int64) (int64, bool) {
	for j := from; j < to; j++ {
		if _, has := p.place(j); !has {
			return j, true
		}
	}
	return 0, false
}

// about: row numbers that are held, those beside these, and the ends.
func (p *plain) about() []int64 {
	l := []int64{least, least + 1, -1, 0, 1, 1 << 32, -1 << 32, greatest - 1, greatest}
	for _, row := range p.rows {
		l = append(l, row.j-1, row.j, row.j+1, row.j+1<<32) // which go round at the ends
	}
	return l
}

// numbersOf: the numbers of a row, for a test: of each row others.
func numbersOf(j int64, width int) []int64 {
	l := make([]int64, width)
	for i := range l {
		l[i] = j*1000 + int64(i)
	}
	return l
}

// put: a row that the ring is to take.
func put(t *testing.T, r *Ring, rows ...int64) {
	t.Helper()
	for _, j := range rows {
		if !r.Put(j, numbersOf(j, r.Width())) {
			t.Fatalf("row %d wasn't put", j)
		}
	}
}

// refuse: rows that the ring isn't to take.
func refuse(t *testing.T, r *Ring, rows ...int64) {
	t.Helper()
	for _, j := range rows {
		if r.Put(j, numbersOf(j, r.Width())) {
			t.Fatalf("row %d was put", j)
		}
	}
}

// checkAs: does a ring tell what the plain list does, of all row numbers about?
func checkAs(t *testing.T, r *Ring, p *plain) {
	t.Helper()
	if r.Room() != p.room || r.Width() != p.width || r.Words() != p.room*p.width {
		t.Fatalf("room %d, width %d, words %d, not %d, %d", r.Room(), r.Width(), r.Words(), p.room, p.width)
	}
	if r.Len() != len(p.rows) || r.Len() > r.Room() {
		t.Fatalf("%d rows, not %d, of %d", r.Len(), len(p.rows), r.Room())
	}
	first, is := r.First()
	if is != (len(p.rows) > 0) || is && first != p.rows[0].j || !is && first != 0 {
		t.Fatalf("first %d, %v, of %v", first, is, p.rows)
	}
	for _, j := range p.about() {
		at, has := p.place(j)
		if r.Has(j) != has {
			t.Fatalf("has %d: %v, of %v", j, !has, p.rows)
		}
		l, is := r.Row(j)
		if is != has || has && !slices.Equal(l, p.rows[at].l) || !has && len(l) != 0 {
			t.Fatalf("row %d: %d, %v, of %v", j, l, is, p.rows)
		}
	}
}

// checkHolds: does a ring hold just these rows (rising), with their numbers?
func checkHolds(t *testing.T, r *Ring, rows ...int64) {
	t.Helper()
	p := &plain{room: r.Room(), width: r.Width()}
	for _, j := range rows {
		p.rows = append(p.rows, plainRow{j, numbersOf(j, r.Width())})
	}
	checkAs(t, r, p)
}

// checkNext: what a ring is to tell, and whether.
func checkNext(t *testing.T, r *Ring, from, to, want int64, wantIs bool) {
	t.Helper()
	if j, is := r.Next(from, to); j != want || is != wantIs {
		t.Errorf("next from %d up to %d: %d, %v, not %d, %v", from, to, j, is, want, wantIs)
	}
}

// P16.1, P16.2: rooms and widths at their bounds, below and above them; nothing is held at first.
func TestNew(t *testing.T) {
	rooms := [][2]int{
		{1, 1}, {2, 2}, {3, 3}, {1000, 1000}, {1<<16 - 1, 1<<16 - 1}, {1 << 16, 1 << 16},
		{0, 1}, {-1, 1}, {-2, 1}, {-1 << 16, 1}, {-1 << 32, 1}, {-1<<32 + 2, 1}, {leastInt + 1, 1}, {leastInt, 1},
		{1<<16 + 1, 1 << 16}, {1 << 17, 1 << 16}, {1 << 18, 1 << 16}, {1 << 31, 1 << 16}, {1 << 32, 1 << 16}, {1<<32 + 1, 1 << 16}, {mostInt - 1, 1 << 16}, {mostInt, 1 << 16},
	}
	widths := [][2]int{
		{0, 0}, {1, 1}, {2, 2}, {1000, 1000}, {1 << 16, 1 << 16}, {1<<16 + 1, 1<<16 + 1}, {1<<18 - 1, 1<<18 - 1}, {1 << 18, 1 << 18},
		{-1, 0}, {-2, 0}, {-1 << 18, 0}, {-1 << 32, 0}, {-1<<32 + 2, 0}, {leastInt + 1, 0}, {leastInt, 0},
		{1<<18 + 1, 1 << 18}, {1 << 19, 1 << 18}, {1 << 31, 1 << 18}, {1 << 32, 1 << 18}, {1<<32 + 1, 1 << 18}, {mostInt - 1, 1 << 18}, {mostInt, 1 << 18},
	}
	for _, room := range rooms {
		for _, width := range widths {
			r := New(room[0], width[0])
			if r.Room() != room[1] || r.Width() != width[1] {
				t.Errorf("of %d, %d: room %d, width %d, not %d, %d", room[0], width[0], r.Room(), r.Width(), room[1], width[1])
			}
			if r.Words() != room[1]*width[1] {
				t.Errorf("of %d, %d: %d words, not %d", room[0], width[0], r.Words(), room[1]*width[1])
			}
			checkHolds(t, r)
		}
	}
}

// P16.1, P16.3: a ring whose room was held to its bounds has just so much.
func TestRoomIsKept(t *testing.T) {
	for _, room := range []int{leastInt, -1, 0, 1} {
		r := New(room, 2)
		put(t, r, 4)
		refuse(t, r, 3, 4, least)
		put(t, r, 5, 9)
		checkHolds(t, r, 9)
	}
	for _, room := range []int{1<<16 - 1, 1 << 16, 1<<16 + 1, mostInt} {
		r := New(room, 1)
		want := min(room, 1<<16)
		for j := range int64(want) {
			put(t, r, j)
			if r.Len() != int(j)+1 {
				t.Fatalf("room %d: %d rows behind %d", room, r.Len(), j)
			}
		}
		if f, is := r.First(); f != 0 || !is {
			t.Fatalf("room %d: first %d, %v", room, f, is)
		}
		refuse(t, r, -1)
		put(t, r, int64(want))
		if f, is := r.First(); f != 1 || !is || r.Len() != want || r.Has(0) {
			t.Fatalf("room %d: first %d, %v, %d rows", room, f, is, r.Len())
		}
	}
}

// P16.1, P16.2: the chapter's example, and the same in other words.
func TestExample(t *testing.T) {
	r := New(2, 3)
	put(t, r, 5, 6, 7)
	checkHolds(t, r, 6, 7)
	checkNext(t, r, 5, 9, 5, true)
	checkNext(t, r, 6, 9, 8, true)
	checkNext(t, r, 6, 8, 0, false)
}

// P16.1: a row has as many numbers as the width; else nothing happens, also in a full ring.
func TestPutCounts(t *testing.T) {
	for _, width := range []int{0, 1, 2, 3, 64, 1<<18 - 1, 1 << 18} {
		for _, n := range []int{0, 1, 2, 3, 4, width - 1, width, width + 1, 2*width + 1} {
			if n < 0 {
				continue
			}
			r := New(2, width)
			if got := r.Put(5, numbersOf(5, n)); got != (n == width) {
				t.Errorf("width %d, %d numbers: %v", width, n, got)
			}
			if n == width {
				checkHolds(t, r, 5)
				continue
			}
			checkHolds(t, r)
			put(t, r, 5, 6)
			if r.Put(7, numbersOf(7, n)) || r.Put(5, numbersOf(7, n)) || r.Put(4, numbersOf(7, n)) {
				t.Errorf("width %d, %d numbers: put into a full one", width, n)
			}
			checkHolds(t, r, 5, 6)
		}
		r := New(1, width)
		if r.Put(1, nil) != (width == 0) {
			t.Errorf("width %d: a row of none", width)
		}
	}
	// The greatest width holds for rings that were to have more.
	r := New(1, mostInt)
	if r.Put(0, make([]int64, 1<<18+1)) || !r.Put(0, make([]int64, 1<<18)) {
		t.Error("a width above the greatest one")
	}
	r = New(1, -1)
	if r.Put(0, []int64{1}) || !r.Put(0, []int64{}) {
		t.Error("a width below 0")
	}
}

// P16.1: of a width of 0 rows are held as well, also those that are nil.
func TestPutOfNoWidth(t *testing.T) {
	r := New(2, 0)
	if !r.Put(6, nil) || !r.Has(6) || r.Put(6, []int64{}) {
		t.Error("a row of none")
	}
	if l, is := r.Row(6); len(l) != 0 || !is {
		t.Errorf("row %d, %v", l, is)
	}
	checkNext(t, r, 6, 8, 7, true)
	checkHolds(t, r, 6)
	r.Reset()
	put(t, r, 3)
	if l, is := r.Row(3); len(l) != 0 || !is {
		t.Errorf("row %d, %v", l, is)
	}
	refuse(t, r, 3)
	put(t, r, 1)
	refuse(t, r, 0)
	put(t, r, 2)
	checkHolds(t, r, 2, 3)
}

// P16.1: a row that it holds isn't put again, and its numbers stay.
func TestPutHeld(t *testing.T) {
	r := New(3, 2)
	for _, j := range []int64{0, -7, 9} {
		put(t, r, j)
		if r.Put(j, []int64{1, 2}) || r.Put(j, numbersOf(j, 2)) {
			t.Errorf("row %d was put twice", j)
		}
	}
	checkHolds(t, r, -7, 0, 9)
	for _, j := range []int64{0, -7, 9} {
		if r.Put(j, []int64{1, 2}) {
			t.Errorf("row %d was put twice, into a full one", j)
		}
	}
	checkHolds(t, r, -7, 0, 9)
	// Once gone it may be put again, with other numbers.
	put(t, r, 10, 11)
	checkHolds(t, r, 9, 10, 11)
	r = New(1, 1)
	put(t, r, 4)
	put(t, r, 5)
	r.Reset()
	if !r.Put(4, []int64{77}) {
		t.Error("row 4 is gone")
	}
	if l, _ := r.Row(4); !slices.Equal(l, []int64{77}) {
		t.Errorf("row 4: %d", l)
	}
}

// P16.1: a row below all that are held: with room for it, and without.
func TestPutBelow(t *testing.T) {
	r := New(3, 2)
	put(t, r, 5, 4)
	checkHolds(t, r, 4, 5)
	put(t, r, -1)
	checkHolds(t, r, -1, 4, 5)
	refuse(t, r, -2, -3, least, least+1, -1<<32, -1-1<<32)
	checkHolds(t, r, -1, 4, 5)
	// What was refused may be put when there is room once more.
	r.Reset()
	put(t, r, -2)
	checkHolds(t, r, -2)
}

// P16.1: between those that are held, or above them, without room: the least one is gone.
func TestPutWithoutRoom(t *testing.T) {
	r := New(3, 2)
	put(t, r, 10, 20, 30)
	put(t, r, 11)
	checkHolds(t, r, 11, 20, 30)
	put(t, r, 25)
	checkHolds(t, r, 20, 25, 30)
	put(t, r, 31)
	checkHolds(t, r, 25, 30, 31)
	put(t, r, 40)
	checkHolds(t, r, 30, 31, 40)
	refuse(t, r, 29)
	put(t, r, 35, 33)
	checkHolds(t, r, 33, 35, 40)
	put(t, r, greatest)
	checkHolds(t, r, 35, 40, greatest)
}

// P16.1, P16.2: rows below 0, and the least and the greatest number.
func TestPutAtTheEnds(t *testing.T) {
	r := New(2, 1)
	put(t, r, greatest)
	checkHolds(t, r, greatest)
	put(t, r, least)
	checkHolds(t, r, least, greatest)
	refuse(t, r, least, greatest)
	put(t, r, -1)
	checkHolds(t, r, -1, greatest)
	refuse(t, r, least, -2)
	put(t, r, greatest-1)
	checkHolds(t, r, greatest-1, greatest)
	refuse(t, r, 0, least)

	r = New(2, 1)
	put(t, r, least, least+1)
	put(t, r, -3)
	checkHolds(t, r, least+1, -3)
	put(t, r, -5)
	checkHolds(t, r, -5, -3)
	// Numbers that are alike in their lower or upper half are others.
	r = New(4, 1)
	put(t, r, 1, 1<<32+1, 1-1<<32, 1<<33+1)
	checkHolds(t, r, 1-1<<32, 1, 1<<32+1, 1<<33+1)
}

// P16.1, P16.3: in rising, falling and mixed order, of rooms of one and more.
func TestPutInOrders(t *testing.T) {
	rising := []int64{-9, -8, -3, 0, 1, 2, 3, 7, 40, 41, 1 << 40}
	falling := slices.Clone(rising)
	slices.Reverse(falling)
	mixed := []int64{3, 41, -9, 2, 1 << 40, 0, -8, 7, 1, 40, -3}
	twice := append(slices.Clone(mixed), rising...)
	for _, order := range [][]int64{rising, falling, mixed, twice} {
		for room := 1; room <= len(order)+1; room++ {
			r, p := New(room, 2), &plain{room: room, width: 2}
			for _, j := range order {
				want := p.put(j, numbersOf(j, 2))
				if got := r.Put(j, numbersOf(j, 2)); got != want {
					t.Fatalf("room %d, row %d: %v", room, j, got)
				}
				checkAs(t, r, p)
			}
		}
	}
	// Whatever the order, of a full one the falling rows are refused, of the rising ones the last are there.
	r := New(3, 2)
	put(t, r, rising...)
	checkHolds(t, r, 40, 41, 1<<40)
	r = New(3, 2)
	put(t, r, falling[:3]...)
	refuse(t, r, falling[3:]...)
	checkHolds(t, r, 40, 41, 1<<40)
}

// P16.2: rows that are held, that are gone, and that never were there.
func TestRowAndHas(t *testing.T) {
	r := New(2, 3)
	if l, is := r.Row(0); len(l) != 0 || is || r.Has(0) {
		t.Errorf("of an empty ring: %d, %v", l, is)
	}
	for _, j := range []int64{4, 5, 6} {
		if !r.Put(j, []int64{j, least, greatest}) {
			t.Fatal(j)
		}
	}
	for _, j := range []int64{5, 6} {
		if l, is := r.Row(j); !slices.Equal(l, []int64{j, least, greatest}) || !is || !r.Has(j) {
			t.Errorf("row %d: %d, %v", j, l, is)
		}
	}
	for _, j := range []int64{4, 3, 7, 0, -5, 5 + 1<<32, 5 - 1<<32, least, greatest} {
		if l, is := r.Row(j); len(l) != 0 || is || r.Has(j) {
			t.Errorf("row %d: %d, %v", j, l, is)
		}
	}
	r.Reset()
	for _, j := range []int64{4, 5, 6} {
		if l, is := r.Row(j); len(l) != 0 || is || r.Has(j) {
			t.Errorf("row %d behind Reset: %d, %v", j, l, is)
		}
	}
}

// P16.2: the least row, behind each Put; 0, false, of none.
func TestFirst(t *testing.T) {
	r := New(3, 1)
	if j, is := r.First(); j != 0 || is {
		t.Errorf("of an empty ring: %d, %v", j, is)
	}
	for _, x := range []struct{ put, want int64 }{
		{5, 5}, {9, 5}, {-2, -2}, {-3, -2}, {-2, -2}, {7, 5}, {6, 6}, {10, 7}, {8, 8}, {greatest, 9}, {0, 9}, {11, 10},
	} {
		r.Put(x.put, []int64{1})
		if j, is := r.First(); j != x.want || !is {
			t.Errorf("behind %d: %d, %v, not %d", x.put, j, is, x.want)
		}
	}
	r = New(3, 1)
	put(t, r, 0)
	if j, is := r.First(); j != 0 || !is {
		t.Errorf("of row 0: %d, %v", j, is)
	}
	r = New(2, 1)
	put(t, r, least)
	if j, is := r.First(); j != least || !is {
		t.Errorf("of the least row: %d, %v", j, is)
	}
}

// P16.2: ranges that are held whole; with a gap at the start, in the midst, at the end; empty ones, and backwards.
func TestNext(t *testing.T) {
	r := New(5, 1)
	for _, from := range []int64{least, -3, 0, 7, greatest - 1} {
		checkNext(t, r, from, from+1, from, true)
		checkNext(t, r, from, greatest, from, true)
		checkNext(t, r, from, from, 0, false)
	}
	put(t, r, -1, 0, 1, 3, 7)
	for _, x := range []struct {
		from, to, want int64
		is             bool
	}{
		{-1, 2, 0, false}, {-1, 0, 0, false}, {-1, 1, 0, false}, {0, 2, 0, false}, {1, 2, 0, false}, {3, 4, 0, false}, {7, 8, 0, false},
		{-2, 2, -2, true}, {-2, -1, -2, true}, {-9, 9, -9, true}, {2, 4, 2, true}, {2, 3, 2, true}, {4, 8, 4, true}, {8, 9, 8, true},
		{-1, 4, 2, true}, {0, 8, 2, true}, {1, 3, 2, true}, {3, 8, 4, true}, {5, 8, 5, true}, {6, 8, 6, true},
		{-1, 3, 2, true}, {3, 5, 4, true}, {7, 9, 8, true}, {7, greatest, 8, true}, {1, greatest, 2, true},
		{0, 0, 0, false}, {2, 2, 0, false}, {4, 4, 0, false}, {8, 8, 0, false}, {least, least, 0, false}, {greatest, greatest, 0, false},
		{2, 1, 0, false}, {9, -9, 0, false}, {4, 2, 0, false}, {5, 4, 0, false}, {greatest, least, 0, false}, {0, least, 0, false}, {greatest, 0, 0, false}, {least + 1, least, 0, false},
		{least, greatest, least, true}, {least, 0, least, true}, {0, greatest, 2, true}, {greatest - 1, greatest, greatest - 1, true},
		{1 << 32, 1<<32 + 2, 1 << 32, true}, {-1 << 32, 1 << 32, -1 << 32, true},
	} {
		checkNext(t, r, x.from, x.to, x.want, x.is)
	}
	checkHolds(t, r, -1, 0, 1, 3, 7)
}

// P16.2: at the least and the greatest number; to isn't among the range, so that the greatest row is never told.
func TestNextAtTheEnds(t *testing.T) {
	r := New(6, 1)
	put(t, r, least, least+1, least+3, greatest-2, greatest-1, greatest)
	checkNext(t, r, least, greatest, least+2, true)
	checkNext(t, r, least, least+1, 0, false)
	checkNext(t, r, least, least+2, 0, false)
	checkNext(t, r, least+1, least+3, least+2, true)
	checkNext(t, r, least+3, least+4, 0, false)
	checkNext(t, r, least+3, 0, least+4, true)
	checkNext(t, r, greatest-2, greatest, 0, false)
	checkNext(t, r, greatest-1, greatest, 0, false)
	checkNext(t, r, greatest-3, greatest, greatest-3, true)
	checkNext(t, r, greatest, greatest, 0, false)
	checkNext(t, r, greatest-1, least, 0, false)

	r = New(2, 1)
	put(t, r, greatest-3, greatest-1)
	checkNext(t, r, greatest-3, greatest, greatest-2, true)
	checkNext(t, r, greatest-1, greatest, 0, false)
}

// P16.2: of a full ring of the greatest room, all of it and beyond.
func TestNextOfManyRows(t *testing.T) {
	r := New(1<<16, 0)
	for j := range int64(1 << 16) {
		put(t, r, j-5)
	}
	checkNext(t, r, -5, 1<<16-5, 0, false)
	checkNext(t, r, -5, greatest, 1<<16-5, true)
	checkNext(t, r, -6, greatest, -6, true)
	put(t, r, 1<<20)
	checkNext(t, r, -5, greatest, -5, true)
	checkNext(t, r, -4, greatest, 1<<16-5, true)
}

// P16.2: of an empty ring and of a full one; behind it the ring is as a new one.
func TestReset(t *testing.T) {
	r := New(3, 2)
	r.Reset()
	checkHolds(t, r)
	put(t, r, 7)
	r.Reset()
	checkHolds(t, r)
	put(t, r, 8, 1, 5, 9)
	r.Reset()
	checkHolds(t, r)
	checkNext(t, r, 8, 10, 8, true)
	r.Reset()
	checkHolds(t, r)
	// Also rows that are below those that were held, and those themselves with other numbers.
	if !r.Put(9, []int64{1, 2}) || !r.Put(-4, []int64{3, 4}) || !r.Put(5, []int64{5, 6}) || r.Put(-5, []int64{7, 8}) {
		t.Fatal("puts behind Reset")
	}
	for j, want := range map[int64][]int64{9: {1, 2}, -4: {3, 4}, 5: {5, 6}} {
		if l, is := r.Row(j); !slices.Equal(l, want) || !is {
			t.Errorf("row %d: %d, %v", j, l, is)
		}
	}
	if j, is := r.First(); j != -4 || !is || r.Len() != 3 {
		t.Errorf("first %d, %v, of %d", j, is, r.Len())
	}
}

// P16.1, P16.2, P16.3: many calls of all kinds tell what a plain list does, and there are never more rows than room.
func TestAgainstPlainList(t *testing.T) {
	for seed := range int64(60) {
		random := rand.New(rand.NewSource(seed))
		room, width := 1+random.Intn(9), random.Intn(4)
		r, p := New(room, width), &plain{room: room, width: width}
		top := int64(-20)
		for range 400 {
			top += int64(random.Intn(2))
			j := top + int64(random.Intn(12)) - 4
			n := width
			if random.Intn(12) == 0 {
				n = random.Intn(5)
			}
			l := make([]int64, n)
			for i := range l {
				l[i] = int64(random.Uint64())
			}
			want := p.put(j, l)
			if got := r.Put(j, l); got != want {
				t.Fatalf("seed %d, row %d: %v, of %v", seed, j, got, p.rows)
			}
			from, to := j-int64(random.Intn(6)), j+int64(random.Intn(9))-1
			next, is := p.next(from, to)
			checkNext(t, r, from, to, next, is)
			if random.Intn(90) == 0 {
				r.Reset()
				p.rows = nil
			}
			checkAs(t, r, p)
		}
	}
}

// P16.1, P16.3: many rows, in any order, of a ring of many: the greatest ones are held.
func TestManyRows(t *testing.T) {
	const room, rows = 1000, 20000
	for _, order := range []string{"rising", "falling", "mixed"} {
		r := New(room, 1)
		l := rand.New(rand.NewSource(1)).Perm(rows)
		if order != "mixed" {
			slices.Sort(l)
		}
		if order == "falling" {
			slices.Reverse(l)
		}
		for i, j := range l {
			r.Put(int64(j), []int64{int64(j)})
			if r.Len() != min(i+1, room) {
				t.Fatalf("%s: %d rows behind %d", order, r.Len(), i+1)
			}
		}
		for j := range int64(rows) {
			l, is := r.Row(j)
			if is != (j >= rows-room) || is && l[0] != j {
				t.Fatalf("%s: row %d: %d, %v", order, j, l, is)
			}
		}
		if j, is := r.First(); j != rows-room || !is {
			t.Errorf("%s: first %d, %v", order, j, is)
		}
	}
}

// P16.3: what is put isn't changed, nor its spare room, and may be written over.
func TestPutIsNotKept(t *testing.T) {
	r := New(2, 3)
	l := []int64{1, 2, 3, 4, 5}
	for i := range int64(5) {
		l[0] = i
		if !r.Put(i, l[:3]) {
			t.Fatal(i)
		}
		if !slices.Equal(l, []int64{i, 2, 3, 4, 5}) {
			t.Fatalf("changed: %d", l)
		}
	}
	for i := range l {
		l[i] = -77
	}
	for _, j := range []int64{3, 4} {
		if got, _ := r.Row(j); !slices.Equal(got, []int64{j, 2, 3}) {
			t.Errorf("row %d: %d", j, got)
		}
	}
	// Nor is it changed by rows that come later into the ring.
	x, y := []int64{1}, []int64{2}
	r = New(1, 1)
	r.Put(1, x)
	r.Put(2, y)
	r.Put(3, []int64{3})
	if x[0] != 1 || y[0] != 2 {
		t.Errorf("changed: %d, %d", x, y)
	}
}

// P16.3: what Row tells is new memory, each time; neither the ring nor another answer shows what is written there.
func TestRowIsNewMemory(t *testing.T) {
	r := New(2, 3)
	put(t, r, 5, 6)
	a, _ := r.Row(5)
	b, _ := r.Row(5)
	for i := range a {
		a[i] = -1
	}
	_ = append(a, -2, -2, -2)
	if !slices.Equal(b, numbersOf(5, 3)) {
		t.Errorf("another answer: %d", b)
	}
	checkHolds(t, r, 5, 6)
	// A row's numbers, once told, stay what they are when the row is gone.
	c, _ := r.Row(6)
	put(t, r, 7, 8, 9)
	if !slices.Equal(b, numbersOf(5, 3)) || !slices.Equal(c, numbersOf(6, 3)) {
		t.Errorf("told before: %d, %d", b, c)
	}
	d, _ := r.Row(8)
	r.Reset()
	put(t, r, 10, 11, 12)
	if !slices.Equal(d, numbersOf(8, 3)) {
		t.Errorf("told before Reset: %d", d)
	}
}

// P16.3: rings have nothing together.
func TestRingsAreApart(t *testing.T) {
	a, b := New(2, 1), New(2, 1)
	put(t, a, 1, 2, 3)
	checkHolds(t, b)
	put(t, b, 7)
	a.Reset()
	checkHolds(t, a)
	checkHolds(t, b, 7)
}

// P16.1, P16.2: asking changes nothing.
func TestAskingChangesNothing(t *testing.T) {
	r := New(3, 2)
	put(t, r, 4, 9, 6)
	for range 3 {
		for _, ask := range []func() string{
			func() string { return fmt.Sprint(r.Room(), r.Width(), r.Len(), r.Words()) },
			func() string { return fmt.Sprint(r.First()) },
			func() string { return fmt.Sprint(r.Next(4, 20)) },
			func() string { return fmt.Sprint(r.Row(9)) },
			func() string { return fmt.Sprint(r.Row(5)) },
			func() string { return fmt.Sprint(r.Has(5), r.Has(6)) },
		} {
			if a, b := ask(), ask(); a != b {
				t.Errorf("%s, then %s", a, b)
			}
			checkHolds(t, r, 4, 6, 9)
		}
	}
}
