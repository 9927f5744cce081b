package plan

import (
	"math"
	"math/rand"
	"slices"
	"testing"

	"smalto/api"
	"smalto/border"
	"smalto/op"
	"smalto/raw"
	"smalto/table"
)

const (
	least    = math.MinInt
	greatest = math.MaxInt
	topTile  = 4096
	topSide  = 1 << 16
)

var notTileSides = []int{0, topTile + 1, -1, least, greatest, -2, -topTile, topTile + 2, 2 * topTile, topSide, 1 << 32, 1<<32 + 1, 1<<32 + topTile, -1 << 32, -1<<32 + 1, 1 << 62, least + 1, greatest - 1}

var tileSides = []int{1, 2, 3, 64, topTile - 1, topTile}

// beside: numbers that are none of those from 0 up to count.
func beside(count int) []int {
	return []int{-1, count, least, greatest, -2, count + 1, -count - 1, count + 1<<32, -1 << 32, -1<<32 + 1, 1 << 62, least + 1, greatest - 1}
}

func blur(radius int) op.Op                 { return op.Op{Kind: op.Blur, Radius: radius} }
func kernel(x, y []int64) op.Op             { return op.Op{Kind: op.Kernel, X: x, Y: y} }
func resizeTo(w, h int, f raw.Filter) op.Op { return op.Op{Kind: op.Resize, W: w, H: h, Filter: f} }
func sameStage(width, height int) op.Stage {
	return op.Stage{X: table.Same(width), Y: table.Same(height)}
}

func makeStage(t *testing.T, o op.Op, width, height int) op.Stage {
	t.Helper()
	s, e := op.Make(o, width, height)
	if e != api.OK {
		t.Fatalf("%v, of %d by %d: %d", o, width, height, e)
	}
	return s
}

func makePlan(t *testing.T, s op.Stage, width, height int) *Plan {
	t.Helper()
	p, e := New(s, width, height)
	if e != api.OK || p == nil {
		t.Fatalf("tiles of %d by %d: %v, %d", width, height, p, e)
	}
	return p
}

// span: a stretch of a side, the output's or the source's.
type span struct {
	first int64
	count int
}

// tellSpans: by the chapter's words, the parts that a table's output is cut into, one behind the other.
func tellSpans(x *table.Table, size int) []span {
	var l []span
	for at := 0; at < x.To(); at += size {
		s := span{int64(at), 0}
		for i := at; i < x.To() && s.count < size; i++ {
			s.count++
		}
		l = append(l, s)
	}
	return l
}

// tellTaken: by the table's lines, the least source sample that the outputs of a part take, and how many from it on.
func tellTaken(x *table.Table, part span) span {
	low, end := int64(math.MaxInt64), int64(math.MinInt64)
	for i := range part.count {
		l := x.Line(int(part.first) + i)
		low = min(low, l.First)
		end = max(end, l.First+int64(len(l.Taps)))
	}
	return span{low, int(end - low)}
}

// tellRing: by the table's lines, the most taps of one.
func tellRing(x *table.Table) int {
	most := 0
	for i := range x.To() {
		most = max(most, len(x.Line(i).Taps))
	}
	return most
}

// tellTiles: by the chapter's words, all tiles, row by row.
func tellTiles(s op.Stage, width, height int) []Tile {
	var l []Tile
	ring := tellRing(s.Y)
	for _, rows := range tellSpans(s.Y, height) {
		takenRows := tellTaken(s.Y, rows)
		for _, columns := range tellSpans(s.X, width) {
			taken := tellTaken(s.X, columns)
			l = append(l, Tile{
				Number: len(l),
				Out:    Rect{int(columns.first), int(rows.first), columns.count, rows.count},
				X:      taken.first, CountX: taken.count,
				Y: takenRows.first, CountY: takenRows.count,
				Ring: ring,
			})
		}
	}
	return l
}

// checkTiles: does a plan tell these tiles, and none else?
func checkTiles(t *testing.T, p *Plan, want []Tile) {
	t.Helper()
	if n := p.Count(); n != len(want) {
		t.Fatalf("%d tiles, not %d", n, len(want))
	}
	for i, w := range want {
		if x, is := p.Tile(i); !is || x != w {
			t.Fatalf("tile %d: %v, %v, not %v", i, x, is, w)
		}
	}
	if l := p.All(); !slices.Equal(l, want) {
		t.Fatalf("all: %v, not %v", l, want)
	}
	for _, i := range beside(len(want)) {
		if x, is := p.Tile(i); is || x != (Tile{}) {
			t.Fatalf("tile %d of %d: %v, %v", i, len(want), x, is)
		}
	}
}

func checkCode(t *testing.T, s op.Stage, width, height int, want api.Code) {
	t.Helper()
	p, e := New(s, width, height)
	if e != want {
		t.Errorf("tiles of %d by %d: code %d, not %d", width, height, e, want)
	}
	if (p != nil) != (want == api.OK) {
		t.Errorf("tiles of %d by %d: plan %v beside %d", width, height, p, e)
	}
}

// P14.1, P14.2: a stage without a table is BadOp, also where a size may not be; with the code there is no plan.
func TestNewWithoutTables(t *testing.T) {
	s := makeStage(t, blur(1), 5, 4)
	for _, s := range []op.Stage{{Y: s.Y}, {X: s.X}, {}, {Y: s.Y, Border: border.Wrap}, {X: s.X, Border: 3}, {Border: border.Mirror}} {
		for _, ok := range tileSides {
			checkCode(t, s, ok, ok, api.BadOp)
			for _, n := range notTileSides {
				checkCode(t, s, n, ok, api.BadOp)
				checkCode(t, s, ok, n, api.BadOp)
				checkCode(t, s, n, n, api.BadOp)
			}
		}
	}
}

// P14.1, P14.2: widths and heights from 1 to MaxTile may be, whatever the output's; with BadTile there is no plan.
func TestNewSizes(t *testing.T) {
	stages := []op.Stage{sameStage(1, 1), makeStage(t, blur(1), 5, 4), makeStage(t, blur(0), 5000, 4500), makeStage(t, resizeTo(3, 2, raw.Lanczos), 9, 9)}
	for _, s := range stages {
		for _, width := range tileSides {
			for _, height := range tileSides {
				checkCode(t, s, width, height, api.OK)
			}
			for _, n := range notTileSides {
				checkCode(t, s, width, n, api.BadTile)
				checkCode(t, s, n, width, api.BadTile)
			}
		}
		for _, width := range notTileSides {
			for _, height := range notTileSides {
				checkCode(t, s, width, height, api.BadTile)
			}
		}
	}
}

// P14.1: a stage needs no border that there is, only tables.
func TestNewBorders(t *testing.T) {
	s := makeStage(t, blur(1), 5, 4)
	for _, b := range append(beside(3), 0, 1, 2) {
		s.Border = border.Policy(b)
		checkCode(t, s, 2, 2, api.OK)
		checkCode(t, s, 0, 2, api.BadTile)
	}
}

// P14.1: the chapter's example.
func TestExample(t *testing.T) {
	p := makePlan(t, sameStage(5, 3), 2, 2)
	checkTiles(t, p, []Tile{
		{Number: 0, Out: Rect{0, 0, 2, 2}, X: 0, Y: 0, CountX: 2, CountY: 2, Ring: 1},
		{Number: 1, Out: Rect{2, 0, 2, 2}, X: 2, Y: 0, CountX: 2, CountY: 2, Ring: 1},
		{Number: 2, Out: Rect{4, 0, 1, 2}, X: 4, Y: 0, CountX: 1, CountY: 2, Ring: 1},
		{Number: 3, Out: Rect{0, 2, 2, 1}, X: 0, Y: 2, CountX: 2, CountY: 1, Ring: 1},
		{Number: 4, Out: Rect{2, 2, 2, 1}, X: 2, Y: 2, CountX: 2, CountY: 1, Ring: 1},
		{Number: 5, Out: Rect{4, 2, 1, 1}, X: 4, Y: 2, CountX: 1, CountY: 1, Ring: 1},
	})
}

// P14.1: a blur takes columns and rows ahead of the first one and behind the last one.
func TestBlurTiles(t *testing.T) {
	p := makePlan(t, makeStage(t, blur(2), 5, 4), 3, 2)
	checkTiles(t, p, []Tile{
		{Number: 0, Out: Rect{0, 0, 3, 2}, X: -2, Y: -2, CountX: 7, CountY: 6, Ring: 5},
		{Number: 1, Out: Rect{3, 0, 2, 2}, X: 1, Y: -2, CountX: 6, CountY: 6, Ring: 5},
		{Number: 2, Out: Rect{0, 2, 3, 2}, X: -2, Y: 0, CountX: 7, CountY: 6, Ring: 5},
		{Number: 3, Out: Rect{3, 2, 2, 2}, X: 1, Y: 0, CountX: 6, CountY: 6, Ring: 5},
	})
}

// P14.1: along rows go a kernel's X, along columns its Y; the ring is of Y's.
func TestKernelTiles(t *testing.T) {
	p := makePlan(t, makeStage(t, kernel([]int64{0, 1, 2, 1, 0}, []int64{1, 2, 1}), 4, 3), 2, 2)
	checkTiles(t, p, []Tile{
		{Number: 0, Out: Rect{0, 0, 2, 2}, X: -2, Y: -1, CountX: 6, CountY: 4, Ring: 3},
		{Number: 1, Out: Rect{2, 0, 2, 2}, X: 0, Y: -1, CountX: 6, CountY: 4, Ring: 3},
		{Number: 2, Out: Rect{0, 2, 2, 1}, X: -2, Y: 1, CountX: 6, CountY: 3, Ring: 3},
		{Number: 3, Out: Rect{2, 2, 2, 1}, X: 0, Y: 1, CountX: 6, CountY: 3, Ring: 3},
	})
	p = makePlan(t, makeStage(t, kernel([]int64{7}, []int64{1, 1, 1, 1, 1, 1, 1, 1, 1}), 2, 2), 9, 1)
	checkTiles(t, p, []Tile{
		{Number: 0, Out: Rect{0, 0, 2, 1}, X: 0, Y: -4, CountX: 2, CountY: 9, Ring: 9},
		{Number: 1, Out: Rect{0, 1, 2, 1}, X: 0, Y: -3, CountX: 2, CountY: 9, Ring: 9},
	})
}

// P14.1: resizes, up and down, by each filter; the ring is the most taps, also of a tile whose own lines have less.
func TestResizeTiles(t *testing.T) {
	// Box, along rows from 4 to 2: lines 0 and 2, of 2 each; along columns from 5 to 3: lines 0, 1 and 3, of 2, 3 and 2.
	p := makePlan(t, makeStage(t, resizeTo(2, 3, raw.Box), 4, 5), 1, 1)
	checkTiles(t, p, []Tile{
		{Number: 0, Out: Rect{0, 0, 1, 1}, X: 0, Y: 0, CountX: 2, CountY: 2, Ring: 3},
		{Number: 1, Out: Rect{1, 0, 1, 1}, X: 2, Y: 0, CountX: 2, CountY: 2, Ring: 3},
		{Number: 2, Out: Rect{0, 1, 1, 1}, X: 0, Y: 1, CountX: 2, CountY: 3, Ring: 3},
		{Number: 3, Out: Rect{1, 1, 1, 1}, X: 2, Y: 1, CountX: 2, CountY: 3, Ring: 3},
		{Number: 4, Out: Rect{0, 2, 1, 1}, X: 0, Y: 3, CountX: 2, CountY: 2, Ring: 3},
		{Number: 5, Out: Rect{1, 2, 1, 1}, X: 2, Y: 3, CountX: 2, CountY: 2, Ring: 3},
	})
	// Cubic, from 3 to 5: lines -2, -1, 0, 0 and 1, of 4, 4, 3, 4 and 4; from 4 to 2: lines -3 and -1, of 8 each.
	p = makePlan(t, makeStage(t, resizeTo(5, 2, raw.Cubic), 3, 4), 3, 4)
	checkTiles(t, p, []Tile{
		{Number: 0, Out: Rect{0, 0, 3, 2}, X: -2, Y: -3, CountX: 5, CountY: 10, Ring: 8},
		{Number: 1, Out: Rect{3, 0, 2, 2}, X: 0, Y: -3, CountX: 5, CountY: 10, Ring: 8},
	})
	// Lanczos, from 3 to 4: lines -3 to 0, of 6 each; from 7 to 3: lines -6, -3 and -1, of 14, 13 and 14.
	p = makePlan(t, makeStage(t, resizeTo(4, 3, raw.Lanczos), 3, 7), 4, 1)
	checkTiles(t, p, []Tile{
		{Number: 0, Out: Rect{0, 0, 4, 1}, X: -3, Y: -6, CountX: 9, CountY: 14, Ring: 14},
		{Number: 1, Out: Rect{0, 1, 4, 1}, X: -3, Y: -3, CountX: 9, CountY: 13, Ring: 14},
		{Number: 2, Out: Rect{0, 2, 4, 1}, X: -3, Y: -1, CountX: 9, CountY: 14, Ring: 14},
	})
}

// P14.1: the ring is of the table along columns, also where that along rows has more taps, or less.
func TestRing(t *testing.T) {
	one := table.Same(6)
	nine, e := table.Filter([]int64{1 << 27, 1 << 27, 1 << 27, 1 << 27, 0, 1 << 27, 1 << 27, 1 << 27, 1 << 27}, 6)
	if e != api.OK {
		t.Fatal(e)
	}
	// From 5 to 3 two of the three lines have 2 taps by Box, and 6 by Cubic.
	box, e := table.Resize(raw.Box, 5, 3)
	if e != api.OK {
		t.Fatal(e)
	}
	cubic, e := table.Resize(raw.Cubic, 5, 3)
	if e != api.OK {
		t.Fatal(e)
	}
	most := map[*table.Table]int{one: 1, nine: 9, box: 3, cubic: 7}
	for x := range most {
		for y, ring := range most {
			for _, size := range []int{1, 2, 9} {
				p := makePlan(t, op.Stage{X: x, Y: y}, size, size)
				for _, x := range p.All() {
					if x.Ring != ring {
						t.Errorf("ring %d, not %d: %v", x.Ring, ring, x)
					}
				}
			}
		}
	}
}

// P14.1: how many tiles there are, of outputs and tiles of many shapes, and what the last one is.
func TestCounts(t *testing.T) {
	for _, c := range []struct {
		w, h, width, height, count int
		last                       Rect
	}{
		{5, 3, 5, 3, 1, Rect{0, 0, 5, 3}},
		{5, 3, 6, 4, 1, Rect{0, 0, 5, 3}},
		{5, 3, topTile, topTile, 1, Rect{0, 0, 5, 3}},
		{5, 3, 1, 1, 15, Rect{4, 2, 1, 1}},
		{5, 3, 4, 3, 2, Rect{4, 0, 1, 3}},
		{5, 3, 5, 2, 2, Rect{0, 2, 5, 1}},
		{5, 3, 3, 2, 4, Rect{3, 2, 2, 1}},
		{5, 3, 1, 3, 5, Rect{4, 0, 1, 3}},
		{5, 3, 5, 1, 3, Rect{0, 2, 5, 1}},
		{6, 4, 3, 2, 4, Rect{3, 2, 3, 2}},
		{6, 4, 2, 2, 6, Rect{4, 2, 2, 2}},
		{1, 7, 1, 3, 3, Rect{0, 6, 1, 1}},
		{1, 7, 9, 7, 1, Rect{0, 0, 1, 7}},
		{1, 7, 2, 2, 4, Rect{0, 6, 1, 1}},
		{7, 1, 3, 1, 3, Rect{6, 0, 1, 1}},
		{7, 1, 4, 9, 2, Rect{4, 0, 3, 1}},
		{1, 1, 1, 1, 1, Rect{0, 0, 1, 1}},
		{1, 1, topTile, topTile, 1, Rect{0, 0, 1, 1}},
		{4096, 4096, 4096, 4096, 1, Rect{0, 0, 4096, 4096}},
		{4097, 4096, 4096, 4096, 2, Rect{4096, 0, 1, 4096}},
		{4096, 4097, 4096, 4096, 2, Rect{0, 4096, 4096, 1}},
		{topSide, topSide, topTile, topTile, 256, Rect{61440, 61440, 4096, 4096}},
		{topSide, topSide, 4095, 4095, 289, Rect{65520, 65520, 16, 16}},
		{topSide, 1, 1, 1, topSide, Rect{65535, 0, 1, 1}},
		{1, topSide, 1, 1, topSide, Rect{0, 65535, 1, 1}},
		{topSide, topSide, 1, 1, 1 << 32, Rect{65535, 65535, 1, 1}},
	} {
		s := sameStage(c.w, c.h)
		p := makePlan(t, s, c.width, c.height)
		if n := p.Count(); n != c.count {
			t.Errorf("%d by %d, in %d by %d: %d tiles, not %d", c.w, c.h, c.width, c.height, n, c.count)
		}
		x, is := p.Tile(c.count - 1)
		want := Tile{c.count - 1, c.last, int64(c.last.X), int64(c.last.Y), c.last.W, c.last.H, 1}
		if !is || x != want {
			t.Errorf("%d by %d, in %d by %d: the last one %v, %v, not %v", c.w, c.h, c.width, c.height, x, is, want)
		}
		for _, i := range beside(c.count) {
			if x, is := p.Tile(i); is || x != (Tile{}) {
				t.Errorf("%d by %d, in %d by %d: tile %d: %v, %v", c.w, c.h, c.width, c.height, i, x, is)
			}
		}
		if n, is := p.Find(c.w-1, c.h-1); !is || n != c.count-1 {
			t.Errorf("%d by %d, in %d by %d: the last pixel in %d, %v", c.w, c.h, c.width, c.height, n, is)
		}
		if n, is := p.Find(0, 0); !is || n != 0 {
			t.Errorf("%d by %d, in %d by %d: the first pixel in %d, %v", c.w, c.h, c.width, c.height, n, is)
		}
		if c.count <= 300 {
			checkTiles(t, p, tellTiles(s, c.width, c.height))
		}
	}
}

// someStages: of many kinds, sizes and counts of taps.
func someStages(t *testing.T) []op.Stage {
	t.Helper()
	var l []op.Stage
	for _, size := range [][2]int{{1, 1}, {1, 5}, {6, 1}, {5, 3}, {8, 7}} {
		for _, o := range []op.Op{
			{Kind: op.Gauss, Sigma: 40000, Border: border.Wrap},
			{Kind: op.Gauss, Sigma: 200000},
			blur(0), blur(1), blur(9),
			kernel([]int64{1, 2, 1}, []int64{4}),
			kernel([]int64{3}, []int64{-1, 0, 8, 0, -1}),
			kernel([]int64{0, 0, 0, 0, 0, 0, 1}, []int64{1, 0, 0}),
		} {
			l = append(l, makeStage(t, o, size[0], size[1]))
		}
		for _, f := range []raw.Filter{raw.Box, raw.Cubic, raw.Lanczos} {
			for _, to := range [][2]int{{1, 1}, {2, 9}, {7, 4}, {13, 2}, {5, 5}} {
				l = append(l, makeStage(t, resizeTo(to[0], to[1], f), size[0], size[1]))
			}
		}
	}
	return l
}

var someTiles = [][2]int{{1, 1}, {1, 4}, {3, 1}, {2, 2}, {3, 4}, {5, 3}, {8, 8}, {topTile, 1}, {1, topTile}, {topTile, topTile}}

// P14.1: each tile as the chapter's words and the tables' lines tell it.
func TestEach(t *testing.T) {
	for _, s := range someStages(t) {
		for _, size := range someTiles {
			p := makePlan(t, s, size[0], size[1])
			checkTiles(t, p, tellTiles(s, size[0], size[1]))
		}
	}
}

// P14.1: tables that aren't an operation's: another one along rows than along columns.
func TestSomeTables(t *testing.T) {
	r := rand.New(rand.NewSource(14))
	some := func() *table.Table {
		n, m := 1+r.Intn(40), 1+r.Intn(40)
		switch r.Intn(3) {
		case 0:
			return table.Same(n)
		case 1:
			l := make([]int64, 1+2*r.Intn(9))
			for i := range l {
				l[i] = 1<<28 + r.Int63n(1<<29)
			}
			x, e := table.Filter(l, n)
			if e != api.OK {
				t.Fatal(l, n, e)
			}
			return x
		}
		x, e := table.Resize(raw.Filter(r.Intn(3)), n, m)
		if e != api.OK {
			t.Fatal(n, m, e)
		}
		return x
	}
	for range 1500 {
		s := op.Stage{X: some(), Y: some()}
		width, height := 1+r.Intn(12), 1+r.Intn(45)
		p := makePlan(t, s, width, height)
		checkTiles(t, p, tellTiles(s, width, height))
		checkCovered(t, p)
	}
}

// P14.1: what a long side's tiles take, whose lines have unlike counts of taps.
func TestLongSides(t *testing.T) {
	for _, s := range []op.Stage{
		makeStage(t, resizeTo(3001, 700, raw.Cubic), 2000, 1999),
		makeStage(t, resizeTo(1200, 4099, raw.Lanczos), 3571, 4096),
		makeStage(t, resizeTo(999, 5000, raw.Box), 5000, 999),
	} {
		for _, size := range [][2]int{{64, 64}, {1000, 333}, {topTile, topTile}} {
			checkTiles(t, makePlan(t, s, size[0], size[1]), tellTiles(s, size[0], size[1]))
		}
	}
}

// P14.1: the tile of each pixel, written out; none of a pixel that there isn't.
func TestFind(t *testing.T) {
	p := makePlan(t, makeStage(t, resizeTo(5, 3, raw.Cubic), 9, 2), 2, 2)
	want := [][]int{{0, 0, 1, 1, 2}, {0, 0, 1, 1, 2}, {3, 3, 4, 4, 5}}
	for y, row := range want {
		for x, w := range row {
			if n, is := p.Find(x, y); !is || n != w {
				t.Errorf("%d, %d: %d, %v, not %d", x, y, n, is, w)
			}
		}
	}
	p = makePlan(t, makeStage(t, blur(1), 4, 5), 3, 1)
	want = [][]int{{0, 0, 0, 1}, {2, 2, 2, 3}, {4, 4, 4, 5}, {6, 6, 6, 7}, {8, 8, 8, 9}}
	for y, row := range want {
		for x, w := range row {
			if n, is := p.Find(x, y); !is || n != w {
				t.Errorf("%d, %d: %d, %v, not %d", x, y, n, is, w)
			}
		}
	}
}

// P14.1: no tile has a pixel that the output hasn't, to either side, alone and both, however wide the tiles and the source.
func TestFindNone(t *testing.T) {
	none := func(p *Plan, x, y int) {
		t.Helper()
		if n, is := p.Find(x, y); is || n != 0 {
			t.Errorf("%d, %d: %d, %v", x, y, n, is)
		}
	}
	for _, s := range []op.Stage{sameStage(5, 3), sameStage(1, 1), sameStage(3, 8), makeStage(t, resizeTo(5, 3, raw.Box), 40, 30), makeStage(t, resizeTo(5, 3, raw.Lanczos), 2, 2)} {
		for _, size := range someTiles {
			p := makePlan(t, s, size[0], size[1])
			for _, x := range beside(s.X.To()) {
				for y := range s.Y.To() {
					none(p, x, y)
				}
				for _, y := range beside(s.Y.To()) {
					none(p, x, y)
				}
			}
			for _, y := range beside(s.Y.To()) {
				for x := range s.X.To() {
					none(p, x, y)
				}
			}
		}
	}
}

// P14.1: the ring times the width, the told one or the output's, times channels; 0 of less than one.
func TestScratch(t *testing.T) {
	five := makeStage(t, blur(2), 10, 7)
	unlike := makeStage(t, kernel([]int64{1, 1, 1, 1, 1, 1, 1}, []int64{1, 1, 1}), 6, 20)
	for _, c := range []struct {
		s             op.Stage
		width, height int
		one           int
	}{
		{five, 4, 3, 20},
		{five, 1, 3, 5},
		{five, 9, 3, 45},
		{five, 10, 3, 50},
		{five, 11, 3, 50},
		{five, topTile, 1, 50},
		{five, 4, topTile, 20},
		{unlike, 2, 5, 6},
		{unlike, 6, 5, 18},
		{unlike, 7, 5, 18},
		{unlike, 20, 6, 18},
		// From 8 to 2, and from 6 to 2, by Box: the output's width counts, not the source's.
		{makeStage(t, resizeTo(2, 2, raw.Box), 8, 6), 5, 1, 6},
		{makeStage(t, resizeTo(2, 2, raw.Box), 8, 6), 1, 1, 3},
		// From 2 to 8 along rows, from 5 to 3 along columns, by Box: 3 taps at most.
		{makeStage(t, resizeTo(8, 3, raw.Box), 2, 5), 6, 1, 18},
		{makeStage(t, resizeTo(8, 3, raw.Box), 2, 5), 9, 9, 24},
		{sameStage(1, 1), topTile, topTile, 1},
		{sameStage(topSide, topSide), topTile, topTile, topTile},
		{makeStage(t, resizeTo(5000, 1, raw.Box), 1, 65536), topTile, 1, 4096 * 65536},
	} {
		p := makePlan(t, c.s, c.width, c.height)
		for _, channels := range []int{0, -1, -3, least, least + 1, -greatest, -1 << 32} {
			if n := p.Scratch(channels); n != 0 {
				t.Errorf("%d by %d, of %d channels: %d", c.width, c.height, channels, n)
			}
		}
		for _, channels := range []int{1, 2, 3, 4, 100} {
			if n := p.Scratch(channels); n != c.one*channels {
				t.Errorf("%d by %d, of %d channels: %d, not %d", c.width, c.height, channels, n, c.one*channels)
			}
		}
	}
}

// P14.1: what no int holds isn't told as less than what one holds.
func TestScratchOfMany(t *testing.T) {
	one := makePlan(t, sameStage(1, 1), 1, 1)
	twenty := makePlan(t, makeStage(t, blur(2), 10, 7), 4, 3)
	for _, c := range []struct {
		p        *Plan
		channels int
		want     int
	}{
		{one, greatest, greatest},
		{one, greatest - 1, greatest - 1},
		{twenty, greatest / 20, greatest / 20 * 20},
		{twenty, greatest/20 + 1, greatest},
		{twenty, 1 << 60, greatest},
		{twenty, 1 << 62, greatest},
		{twenty, greatest - 1, greatest},
		{twenty, greatest, greatest},
	} {
		if n := c.p.Scratch(c.channels); n != c.want {
			t.Errorf("of %d channels: %d, not %d", c.channels, n, c.want)
		}
	}
}

// P14.1, P14.2: the stage is just the one that was handed in, its tables themselves.
func TestStage(t *testing.T) {
	x, y := table.Same(5), table.Same(5)
	for _, b := range append(beside(3), 0, 1, 2) {
		for _, s := range []op.Stage{{X: x, Y: y}, {X: y, Y: x}, {X: x, Y: x}} {
			s.Border = border.Policy(b)
			p := makePlan(t, s, 3, 2)
			p.All()
			if p.Stage() != s {
				t.Errorf("%v, not %v", p.Stage(), s)
			}
			other := p.Stage()
			other.X, other.Y, other.Border = nil, nil, other.Border+1
			if p.Stage() != s || p.Count() != 6 {
				t.Errorf("%v, not %v, behind a change of what was answered", p.Stage(), s)
			}
		}
	}
}

// checkCovered: is each output pixel in just one tile, the one that Find tells, and is all that its taps take within that tile's columns and rows?
func checkCovered(t *testing.T, p *Plan) {
	t.Helper()
	s, all := p.Stage(), p.All()
	within := func(x *table.Table, i int, first int64, count int) bool {
		l := x.Line(i)
		return l.First >= first && l.First+int64(len(l.Taps)) <= first+int64(count)
	}
	found := 0
	for y := range s.Y.To() {
		for x := range s.X.To() {
			n, is := p.Find(x, y)
			if !is || n < 0 || n >= len(all) {
				t.Fatalf("pixel %d, %d in %d, %v", x, y, n, is)
			}
			for i, tile := range all {
				o := tile.Out
				inside := x >= o.X && x < o.X+o.W && y >= o.Y && y < o.Y+o.H
				if inside != (i == n) {
					t.Fatalf("pixel %d, %d: found in %d; inside %v: %v", x, y, n, tile, inside)
				}
			}
			if !within(s.X, x, all[n].X, all[n].CountX) || !within(s.Y, y, all[n].Y, all[n].CountY) {
				t.Fatalf("pixel %d, %d: not all that its taps take is within %v", x, y, all[n])
			}
			found++
		}
	}
	area := 0
	for _, tile := range all {
		area += tile.Out.W * tile.Out.H
	}
	if area != found {
		t.Fatalf("tiles of %d pixels, of an output of %d", area, found)
	}
}

// P14.2: each output pixel is in just one tile, and what its taps take within the tile's columns and rows.
func TestCovered(t *testing.T) {
	for _, s := range someStages(t) {
		for _, size := range someTiles {
			checkCovered(t, makePlan(t, s, size[0], size[1]))
		}
	}
}

// tableLines: all that a table tells of itself.
func tableLines(x *table.Table) []table.Line {
	l := make([]table.Line, x.To())
	for i := range l {
		l[i] = x.Line(i)
	}
	return append(l, table.Line{First: int64(x.From()), Taps: []int64{int64(x.Most()), x.Size()}})
}

func sameLines(a, b []table.Line) bool {
	return slices.EqualFunc(a, b, func(a, b table.Line) bool { return a.First == b.First && slices.Equal(a.Taps, b.Taps) })
}

// P14.2: a stage stays as it was, whatever its plan is asked; what All answers is new memory each time.
func TestStays(t *testing.T) {
	for _, s := range someStages(t) {
		was, x, y := s, tableLines(s.X), tableLines(s.Y)
		p, other := makePlan(t, s, 3, 2), makePlan(t, s, 1, 4)
		want, wantOther := tellTiles(s, 3, 2), tellTiles(s, 1, 4)
		first := p.All()
		for i := range first {
			first[i] = Tile{-1, Rect{-1, -2, -3, -4}, -5, -6, -7, -8, -9}
		}
		_ = append(first, Tile{Number: 77})
		second := p.All()
		checkTiles(t, p, want)
		for i := range second {
			second[i] = Tile{}
		}
		if first := first[0]; first.Number != -1 || first.Ring != -9 {
			t.Fatalf("one answer of All shows the other one: %v", first)
		}
		p.Find(1, 1)
		p.Scratch(3)
		checkTiles(t, p, want)
		checkTiles(t, other, wantOther)
		if s != was || p.Stage() != was || other.Stage() != was || !sameLines(x, tableLines(s.X)) || !sameLines(y, tableLines(s.Y)) {
			t.Fatalf("the stage is no more as it was: %v, %v", was, s)
		}
	}
}
