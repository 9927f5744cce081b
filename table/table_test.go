package table

import (
	"math"
	"slices"
	"testing"

	"smalto/api"
	"smalto/raw"
	"smalto/taps"
)

const (
	least    = math.MinInt
	greatest = math.MaxInt
	side     = api.MaxSide
	enough   = 1 << 28 // the least sum of raw weights
	top      = 1 << 40 // the greatest raw weight, without sign
	crowd    = 1 << 20 // the most raw weights; an odd count of them is one less at most
)

var filtersOfAll = []raw.Filter{raw.Box, raw.Cubic, raw.Lanczos}

var notFilters = []raw.Filter{-1, 3, least, greatest, -2, 4, 1 << 32, 1<<32 + 1, least + 1, greatest - 1}

var notSides = []int{0, -1, -2, -4, -side, side + 1, side + 2, 2 * side, 1 << 32, 1<<32 + 4, 1 << 62, -1 << 62, least, least + 1, greatest - 1, greatest}

// same: a list of so many of one number.
func same(x int64, count int) []int64 { return slices.Repeat([]int64{x}, count) }

func sameLine(a, b Line) bool { return a.First == b.First && slices.Equal(a.Taps, b.Taps) }

// toldReach: of the lines from i up to k, within those that there are, one by one.
func toldReach(lines []Line, i, k int) (int64, int) {
	first, end, none := int64(0), int64(0), true
	for j, l := range lines {
		if j < i || j >= k {
			continue
		}
		if none {
			first, end, none = l.First, l.First, false
		}
		first, end = min(first, l.First), max(end, l.First+int64(len(l.Taps)))
	}
	return first, int(end - first)
}

// places: numbers of outputs, of m that there are: at the ends, beyond them, and in between.
func places(m int) []int {
	if m < 12 {
		l := []int{least, greatest}
		for i := -3; i <= m+3; i++ {
			l = append(l, i)
		}
		return l
	}
	return []int{least, least + 1, -1 << 32, -2, -1, 0, 1, 2, m / 3, m/3 + 1, m / 2, m - 2, m - 1, m, m + 1, 1 << 32, greatest - 1, greatest}
}

// checkTable: is it just these lines, from so many?
func checkTable(t *testing.T, x *Table, n int, lines []Line) {
	t.Helper()
	if x == nil || x.From() != n || x.To() != len(lines) {
		t.Fatalf("from %d to %d: another table", n, len(lines))
	}
	most, size := 0, int64(0)
	for i, want := range lines {
		got := x.Line(i)
		if !sameLine(got, want) {
			t.Fatalf("from %d to %d, line %d: %d, not %d", n, len(lines), i, got, want)
		}
		if taps.Sum(got.Taps) != 1<<14 {
			t.Fatalf("from %d to %d, line %d: %d come to %d", n, len(lines), i, got.Taps, taps.Sum(got.Taps))
		}
		most, size = max(most, len(want.Taps)), max(size, taps.Size(want.Taps))
	}
	if x.Most() != most || x.Size() != size {
		t.Fatalf("from %d to %d: Most %d, not %d; Size %d, not %d", n, len(lines), x.Most(), most, x.Size(), size)
	}
	checkReach(t, x, lines)
}

func checkReach(t *testing.T, x *Table, lines []Line) {
	t.Helper()
	for _, i := range places(len(lines)) {
		for _, k := range places(len(lines)) {
			first, count := x.Reach(i, k)
			wantFirst, wantCount := toldReach(lines, i, k)
			if first != wantFirst || count != wantCount {
				t.Fatalf("of %d lines, from %d up to %d: %d, %d, not %d, %d", len(lines), i, k, first, count, wantFirst, wantCount)
			}
		}
	}
}

func checkResize(t *testing.T, f raw.Filter, n, m int) {
	t.Helper()
	lines := make([]Line, m)
	for i := range lines {
		first, l := raw.Row(f, int64(n), int64(m), int64(i))
		own, _ := taps.Apportion(l)
		lines[i] = Line{first, own}
	}
	x, e := Resize(f, n, m)
	if e != api.OK {
		t.Fatalf("%d, from %d to %d: %d", f, n, m, e)
	}
	checkTable(t, x, n, lines)
}

// P8.1: each filter's lines, written out.
func TestResizeLines(t *testing.T) {
	for _, c := range []struct {
		f    raw.Filter
		n, m int
		want []Line
	}{
		// The same sides.
		{raw.Box, 3, 3, []Line{{0, []int64{16384}}, {1, []int64{16384}}, {2, []int64{16384}}}},
		{raw.Cubic, 2, 2, []Line{{-1, []int64{0, 16384, 0}}, {0, []int64{0, 16384, 0}}}},
		{raw.Lanczos, 2, 2, []Line{{-2, []int64{0, 0, 16384, 0, 0}}, {-1, []int64{0, 0, 16384, 0, 0}}}},
		// Twice the other.
		{raw.Box, 4, 2, []Line{{0, []int64{8192, 8192}}, {2, []int64{8192, 8192}}}},
		{raw.Box, 2, 4, []Line{{0, []int64{16384}}, {0, []int64{16384}}, {1, []int64{16384}}, {1, []int64{16384}}}},
		{raw.Cubic, 4, 2, []Line{{-3, []int64{-192, -576, 1856, 7104, 7104, 1856, -576, -192}}, {-1, []int64{-192, -576, 1856, 7104, 7104, 1856, -576, -192}}}},
		{raw.Cubic, 1, 2, []Line{{-2, []int64{-384, 3712, 14208, -1152}}, {-1, []int64{-1152, 14208, 3712, -384}}}},
		{raw.Lanczos, 2, 1, []Line{{-5, []int64{60, 247, -557, -1092, 2220, 7314, 7314, 2220, -1092, -557, 247, 60}}}},
		{raw.Lanczos, 1, 2, []Line{{-3, []int64{121, -1114, 4440, 14627, -2183, 493}}, {-2, []int64{493, -2183, 14627, 4440, -1114, 121}}}},
		// Three times the other.
		{raw.Box, 6, 2, []Line{{0, []int64{5462, 5461, 5461}}, {3, []int64{5462, 5461, 5461}}}},
		{raw.Box, 1, 3, []Line{{0, []int64{16384}}, {0, []int64{16384}}, {0, []int64{16384}}}},
		{raw.Cubic, 3, 1, []Line{{-4, []int64{-202, -404, 0, 1820, 4248, 5461, 4248, 1820, 0, -405, -202}}}},
		{raw.Cubic, 1, 3, []Line{{-2, []int64{-607, 5461, 12743, -1213}}, {-1, []int64{0, 16384, 0}}, {-1, []int64{-1213, 12743, 5461, -607}}}},
		{raw.Lanczos, 1, 3, []Line{{-3, []int64{208, -1536, 6265, 13335, -2400, 512}}, {-2, []int64{0, 0, 16384, 0, 0}}, {-2, []int64{512, -2400, 13335, 6265, -1536, 208}}}},
		// No common divisor.
		{raw.Box, 3, 2, []Line{{0, []int64{10923, 5461}}, {1, []int64{5461, 10923}}}},
		{raw.Box, 2, 3, []Line{{0, []int64{16384}}, {0, []int64{8192, 8192}}, {1, []int64{16384}}}},
		{raw.Box, 7, 4, []Line{{0, []int64{9362, 7022}}, {1, []int64{2341, 9362, 4681}}, {3, []int64{4681, 9362, 2341}}, {5, []int64{7022, 9362}}}},
		{raw.Cubic, 2, 3, []Line{{-2, []int64{-190, 2162, 15360, -948}}, {-1, []int64{-1024, 9216, 9216, -1024}}, {0, []int64{-948, 15360, 2162, -190}}}},
		{raw.Lanczos, 5, 3, []Line{{-4, []int64{171, 0, -1446, 2046, 9157, 7246, 0, -1107, 270, 47}}, {-2, []int64{291, -517, -1163, 4653, 9857, 4652, -1163, -517, 291}}, {-1, []int64{47, 270, -1107, 0, 7246, 9157, 2046, -1446, 0, 171}}}},
		// 1 to 1.
		{raw.Box, 1, 1, []Line{{0, []int64{16384}}}}, {raw.Cubic, 1, 1, []Line{{-1, []int64{0, 16384, 0}}}}, {raw.Lanczos, 1, 1, []Line{{-2, []int64{0, 0, 16384, 0, 0}}}},
	} {
		x, e := Resize(c.f, c.n, c.m)
		if e != api.OK {
			t.Fatalf("%d, from %d to %d: %d", c.f, c.n, c.m, e)
		}
		checkTable(t, x, c.n, c.want)
	}
}

// P8.1, P8.2, P8.3: of each filter all lines, by chapter 5's and 6's words, and what else the table tells.
func TestResize(t *testing.T) {
	for _, f := range filtersOfAll {
		for n := 1; n <= 12; n++ {
			for m := 1; m <= 12; m++ {
				checkResize(t, f, n, m)
			}
		}
		for _, c := range [][2]int{
			{100, 100}, {511, 511}, {50, 100}, {100, 50}, {33, 99}, {99, 33}, {1024, 2048}, {3072, 1024},
			{100, 99}, {99, 100}, {31, 1000}, {1000, 31}, {1024, 1023}, {640, 481}, {1, 100}, {100, 1}, {1, 4097}, {4097, 1}, {2, 4097},
			{side, side}, {side, side / 2}, {side / 2, side}, {side, side - 1}, {side - 1, side}, {1, side}, {side, 1},
		} {
			checkResize(t, f, c[0], c[1])
		}
	}
}

// P8.1: BadOp, and then there is no table.
func TestResizeCodes(t *testing.T) {
	bad := func(f raw.Filter, n, m int) {
		t.Helper()
		if x, e := Resize(f, n, m); x != nil || e != api.BadOp {
			t.Errorf("%d, from %d to %d: %v and %d", f, n, m, x, e)
		}
	}
	for _, f := range notFilters {
		bad(f, 4, 2)
		bad(f, 1, 1)
		bad(f, side, side)
		bad(f, 0, 4)
		bad(f, 4, side+1)
	}
	for _, f := range append(filtersOfAll[:3:3], -1, 3) {
		for _, n := range notSides {
			bad(f, n, 4)
			bad(f, 4, n)
			bad(f, n, 1)
			bad(f, 1, n)
			bad(f, n, side)
			bad(f, side, n)
			bad(f, n, n)
		}
	}
}

// aroundEach: lines from n to n, all with these taps, the middle one each output's own.
func aroundEach(l []int64, n int) []Line {
	lines := make([]Line, n)
	for i := range lines {
		lines[i] = Line{int64(i - (len(l)-1)/2), l}
	}
	return lines
}

// P8.1, P8.2, P8.3: of raw weights, the same taps around each output.
func TestFilter(t *testing.T) {
	for _, c := range []struct{ l, want []int64 }{
		// One weight.
		{[]int64{1 << 28}, []int64{16384}}, {[]int64{top}, []int64{16384}},
		// Three: the order stays, noughts at the ends too.
		{[]int64{1 << 28, 1 << 29, 1 << 28}, []int64{4096, 8192, 4096}}, {[]int64{3 << 28, 1 << 28, 0}, []int64{12288, 4096, 0}}, {[]int64{0, 1 << 28, 0}, []int64{0, 16384, 0}}, {[]int64{0, 0, 1 << 28}, []int64{0, 0, 16384}}, {same(1<<29, 3), []int64{5462, 5461, 5461}},
		// Below 0.
		{[]int64{-1 << 28, 3 << 28, -1 << 28}, []int64{-16384, 49152, -16384}}, {[]int64{-1 << 28, -1 << 28, 5 << 28}, []int64{-5461, -5461, 27306}}, {[]int64{-top, top, enough}, []int64{-1 << 26, 1 << 26, 16384}},
		// More.
		{same(1<<28, 5), []int64{3277, 3277, 3277, 3277, 3276}}, {[]int64{1 << 28, 0, 0, 0, 0, 0, 1 << 28}, []int64{8192, 0, 0, 0, 0, 0, 8192}},
	} {
		for _, n := range []int{1, 2, 3, 5, 8, 100, side - 1, side} {
			x, e := Filter(c.l, n)
			if e != api.OK {
				t.Fatalf("%d, of %d: %d", c.l, n, e)
			}
			checkTable(t, x, n, aroundEach(c.want, n))
		}
	}
	l := make([]int64, 1023)
	for i := range l {
		l[i] = 1<<20 + int64(i*i)
	}
	want, _ := taps.Apportion(l)
	x, _ := Filter(l, 300)
	checkTable(t, x, 300, aroundEach(want, 300))
}

// P8.1: the most weights that there may be, of the longest side too.
func TestFilterOfMost(t *testing.T) {
	l := same(256, crowd-1)
	l[0], l[crowd-2] = 256+1<<28, -1<<27
	want, _ := taps.Apportion(l)
	for _, n := range []int{1, 2, side} {
		x, e := Filter(l, n)
		if e != api.OK || x.From() != n || x.To() != n || x.Most() != crowd-1 || x.Size() != taps.Size(want) {
			t.Fatal(n, e)
		}
		for _, i := range []int{0, n / 2, n - 1} {
			if own := x.Line(i); !sameLine(own, Line{int64(i) - crowd/2 + 1, want}) {
				t.Errorf("of %d, line %d: %d, %d taps", n, i, own.First, len(own.Taps))
			}
		}
		if first, count := x.Reach(least, greatest); first != 1-crowd/2 || count != crowd-2+n {
			t.Errorf("of %d: %d, %d", n, first, count)
		}
	}
}

// P8.1: the first code of the chapter's order.
func TestFilterCodes(t *testing.T) {
	for _, c := range []struct {
		l    []int64
		want api.Code
	}{
		{[]int64{enough}, api.OK}, {[]int64{1 << 28, 1 << 29, 1 << 28}, api.OK}, {same(256+1, crowd-1), api.OK}, {[]int64{top}, api.OK}, {[]int64{-top, top, enough}, api.OK},
		// None, and even counts: of weights that might be apportioned, of too small a sum, and of too great a one.
		{nil, api.BadKernel}, {[]int64{}, api.BadKernel}, {[]int64{1 << 29, 1 << 29}, api.BadKernel}, {same(1<<28, 4), api.BadKernel}, {same(1<<28, 1024), api.BadKernel}, {same(256, crowd), api.BadKernel}, {same(256, crowd+2), api.BadKernel}, {[]int64{1, 1}, api.BadKernel}, {[]int64{0, 0}, api.BadKernel}, {[]int64{-enough, -1}, api.BadKernel}, {[]int64{top, -top}, api.BadKernel}, {[]int64{top + 1, 1}, api.BadKernel}, {same(1, crowd), api.BadKernel},
		// Too many.
		{same(256, crowd+1), api.BadKernel}, {same(0, crowd+1), api.BadKernel}, {same(-top, crowd+1), api.BadKernel}, {same(256, crowd+3), api.BadKernel},
		// Too great.
		{[]int64{top + 1}, api.BadKernel}, {[]int64{-1 - top}, api.BadKernel}, {[]int64{top, top, -1 - top}, api.BadKernel}, {[]int64{0, -1 - top, 0}, api.BadKernel}, {[]int64{math.MinInt64}, api.BadKernel}, {[]int64{math.MaxInt64}, api.BadKernel}, {[]int64{math.MaxInt64, math.MinInt64, enough + 1}, api.BadKernel},
		// Too little.
		{[]int64{enough - 1}, api.Degenerate}, {[]int64{5}, api.Degenerate}, {[]int64{0}, api.Degenerate}, {[]int64{-enough}, api.Degenerate}, {[]int64{-top}, api.Degenerate}, {same(0, 3), api.Degenerate}, {[]int64{top, 0, -top}, api.Degenerate}, {[]int64{enough, 0, -1}, api.Degenerate}, {[]int64{-1 << 28, 1 << 29, -1 << 28}, api.Degenerate}, {same(256, crowd-1), api.Degenerate}, {same(-1, 1023), api.Degenerate},
	} {
		ahead := c.l[:min(len(c.l), 5)]
		for _, n := range []int{1, 5, side} {
			if x, e := Filter(c.l, n); e != c.want || (x == nil) != (e != api.OK) {
				t.Errorf("%d ahead of %d, of %d: %d, not %d", ahead, len(c.l), n, e, c.want)
			}
		}
		for _, n := range notSides {
			if x, e := Filter(c.l, n); e != api.BadOp || x != nil {
				t.Errorf("%d ahead of %d, of %d: %d", ahead, len(c.l), n, e)
			}
		}
	}
}

// P8.1, P8.2, P8.3: each one itself.
func TestSame(t *testing.T) {
	for _, n := range []int{1, 2, 3, 10, 1000, side - 1, side} {
		x := Same(n)
		checkTable(t, x, n, aroundEach([]int64{16384}, n))
		if x.Most() != 1 || x.Size() != 16384 {
			t.Error(n, x.Most(), x.Size())
		}
	}
	for _, n := range notSides {
		if x := Same(n); x != nil {
			t.Error(n, x)
		}
	}
}

// tables: some of each kind, and how many outputs they have.
func tables(t *testing.T) map[int]*Table {
	t.Helper()
	all := map[int]*Table{1: Same(1), side: Same(side)}
	for _, m := range []int{3, 7, 40} {
		all[m], _ = Resize(raw.Lanczos, 20, m)
	}
	all[5], _ = Filter([]int64{1 << 28, 3 << 28, -1 << 28}, 5)
	all[side-1], _ = Filter(same(1<<28, 7), side-1)
	for m, x := range all {
		if x == nil || x.To() != m {
			t.Fatal(m, x)
		}
	}
	return all
}

// P8.2: how many samples a table is from, and to.
func TestFromTo(t *testing.T) {
	for _, n := range []int{1, 2, 9, side - 1, side} {
		for _, m := range []int{1, 2, 7, side} {
			if x, _ := Resize(raw.Box, n, m); x.From() != n || x.To() != m {
				t.Error(n, m, x.From(), x.To())
			}
		}
	}
}

// P8.2: zero, of an output that there isn't.
func TestLine(t *testing.T) {
	for m, x := range tables(t) {
		for _, i := range []int{-1, m, least, greatest, -2, -m, m + 1, 2 * m, 1 << 32, -1 << 32, 1<<32 + m - 1, least + 1, greatest - 1} {
			if l := x.Line(i); l.First != 0 || l.Taps != nil {
				t.Errorf("of %d, line %d: %d", m, i, l)
			}
		}
		for _, i := range []int{0, m - 1} {
			if l := x.Line(i); len(l.Taps) == 0 {
				t.Errorf("of %d, line %d: none", m, i)
			}
		}
	}
	x, _ := Filter([]int64{1 << 28, 3 << 28, -1 << 28}, 5)
	if l := x.Line(0); !sameLine(l, Line{-1, []int64{5461, 16384, -5461}}) {
		t.Error(l)
	}
	if l := x.Line(4); !sameLine(l, Line{3, []int64{5461, 16384, -5461}}) {
		t.Error(l)
	}
}

// P8.2: Most and Size, where the outputs have unlike counts of taps, and taps below 0.
func TestMostSize(t *testing.T) {
	for _, c := range []struct {
		f    raw.Filter
		n, m int
		most int
		size int64
	}{
		// The most stand in the middle, at the ends.
		{raw.Box, 2, 3, 2, 16384}, {raw.Box, 7, 4, 3, 16384}, {raw.Lanczos, 5, 3, 10, 23104}, {raw.Cubic, 1, 3, 4, 20024}, {raw.Box, side, 1, side, 16384}, {raw.Box, side, side - 1, 2, 16384},
		// The greatest Size stands in the middle; at the ends.
		{raw.Cubic, 2, 3, 4, 20480}, {raw.Lanczos, 2, 3, 6, 25288}, {raw.Lanczos, 1, 3, 6, 24256}, {raw.Cubic, 3, 1, 11, 18810}, {raw.Lanczos, 7, 4, 11, 22644},
		{raw.Cubic, 4, 4, 3, 16384}, {raw.Lanczos, 8, 8, 5, 16384}, {raw.Cubic, side, 1, 4 * side, 16384}, {raw.Lanczos, 1, side, 6, 25290},
	} {
		x, e := Resize(c.f, c.n, c.m)
		if e != api.OK || x.Most() != c.most || x.Size() != c.size {
			t.Errorf("%d, from %d to %d: Most %d, Size %d", c.f, c.n, c.m, x.Most(), x.Size())
		}
	}
	for _, c := range []struct {
		l    []int64
		size int64
	}{
		{[]int64{1 << 28, 1 << 29, 1 << 28}, 16384}, {[]int64{-1 << 28, 3 << 28, -1 << 28}, 81920}, {[]int64{-1 << 28, -1 << 28, 5 << 28}, 38228}, {[]int64{0, 1 << 28, 0}, 16384}, {[]int64{-top, top, enough}, 1<<27 + 16384},
	} {
		if x, e := Filter(c.l, 9); e != api.OK || x.Most() != len(c.l) || x.Size() != c.size {
			t.Errorf("%d: Most %d, Size %d", c.l, x.Most(), x.Size())
		}
	}
}

// P8.2: what some outputs take.
func TestReach(t *testing.T) {
	box, _ := Resize(raw.Box, 4, 2)
	thirds, _ := Resize(raw.Cubic, 1, 3)
	sevenths, _ := Resize(raw.Box, 7, 4)
	kernel, _ := Filter(same(1<<28, 5), 3)
	for _, c := range []struct {
		x    *Table
		i, k int
		want int64
		many int
	}{
		// One, all.
		{box, 0, 1, 0, 2}, {box, 1, 2, 2, 2}, {box, 0, 2, 0, 4}, {thirds, 0, 1, -2, 4}, {thirds, 1, 2, -1, 3}, {thirds, 0, 2, -2, 4}, {thirds, 1, 3, -1, 4}, {thirds, 0, 3, -2, 5}, {sevenths, 1, 3, 1, 5}, {sevenths, 0, 4, 0, 7}, {sevenths, 3, 4, 5, 2},
		// Windows that begin below 0, and end behind the last sample.
		{kernel, 0, 1, -2, 5}, {kernel, 1, 2, -1, 5}, {kernel, 2, 3, 0, 5}, {kernel, 0, 3, -2, 7}, {kernel, 1, 3, -1, 6},
		// Within those that there are.
		{kernel, -1, 1, -2, 5}, {kernel, -7, 9, -2, 7}, {kernel, 2, 4, 0, 5}, {kernel, 2, greatest, 0, 5}, {kernel, least, 1, -2, 5}, {kernel, least, greatest, -2, 7}, {box, least, greatest, 0, 4}, {Same(side), least, greatest, 0, side}, {Same(side), side - 1, side + 9, side - 1, 1},
		// None.
		{kernel, 0, 0, 0, 0}, {kernel, 2, 2, 0, 0}, {kernel, 3, 3, 0, 0}, {kernel, 2, 1, 0, 0}, {kernel, 3, 0, 0, 0}, {kernel, 1, 0, 0, 0}, {kernel, -1, 0, 0, 0}, {kernel, -9, -1, 0, 0}, {kernel, 3, 4, 0, 0}, {kernel, 3, greatest, 0, 0}, {kernel, 9, 12, 0, 0}, {kernel, greatest, least, 0, 0}, {kernel, least, least, 0, 0}, {kernel, greatest, greatest, 0, 0}, {kernel, least, 0, 0, 0}, {kernel, least, -1, 0, 0}, {kernel, greatest - 1, greatest, 0, 0}, {kernel, 2, least, 0, 0}, {kernel, 1<<32 + 1, 1<<32 + 2, 0, 0}, {box, 1, 1, 0, 0}, {box, 2, 3, 0, 0},
	} {
		if first, count := c.x.Reach(c.i, c.k); first != c.want || count != c.many {
			t.Errorf("from %d up to %d: %d, %d, not %d, %d", c.i, c.k, first, count, c.want, c.many)
		}
	}
}

// P8.3: weights that are handed in stay as they were, their spare room too, and aren't kept.
func TestWeightsStay(t *testing.T) {
	for _, c := range []struct {
		l []int64
		n int
	}{
		{[]int64{1 << 28, 3, -1 << 26, 1 << 28, 1 << 28}, 6}, {[]int64{1 << 28}, 2}, {[]int64{1 << 29, 1 << 28, 1 << 29}, 1},
		{[]int64{1, 2, 3}, 4}, {[]int64{enough, enough}, 4}, {[]int64{enough, top + 1, enough}, 4}, {[]int64{enough}, 0},
	} {
		room := append(slices.Clone(c.l), -11, -12, -13)
		kept := slices.Clone(room)
		x, e := Filter(room[:len(c.l)], c.n)
		if !slices.Equal(room, kept) {
			t.Errorf("what was handed in: %d, not %d", room, kept)
		}
		for i := range room {
			room[i] = -99
		}
		if e != api.OK {
			continue
		}
		want, _ := taps.Apportion(c.l)
		checkTable(t, x, c.n, aroundEach(want, c.n))
		for _, y := range room {
			if y != -99 {
				t.Errorf("written into: %d", room)
			}
		}
	}
}

// P8.3: a table stays as it was when what it answered is written over, spare room too.
func TestAnswersAreNew(t *testing.T) {
	for m, x := range tables(t) {
		if m > 1000 {
			continue
		}
		lines := make([]Line, m)
		for i := range lines {
			l := x.Line(i)
			lines[i] = Line{l.First, slices.Clone(l.Taps)}
		}
		for i := range lines {
			l := x.Line(i)
			l.First = 77
			_ = append(l.Taps, -78)
			for k := range l.Taps[:cap(l.Taps)] {
				l.Taps[:cap(l.Taps)][k] = -79
			}
		}
		checkTable(t, x, x.From(), lines)
	}
	// Tables of the same arguments have nothing in common.
	a, b := Same(2), Same(2)
	if a == b || &a.Line(0).Taps[0] == &b.Line(0).Taps[0] {
		t.Error("one table, twice")
	}
}
