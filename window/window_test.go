package window

import (
	"fmt"
	"math"
	"math/big"
	"math/rand"
	"slices"
	"testing"

	"smalto/api"
	"smalto/border"
	"smalto/direct"
	"smalto/op"
	"smalto/plan"
	"smalto/raster"
	"smalto/raw"
	"smalto/table"
)

const (
	least    = math.MinInt
	greatest = math.MaxInt
	side     = 1 << 16 // the greatest side
	unit     = 1 << 30 // one, as a raw weight
)

var borders = []border.Policy{border.Clamp, border.Mirror, border.Wrap}

var notBorders = []border.Policy{-1, 3, least, greatest, -2, 4, 1 << 32, 1<<32 + 1, -1 << 32, least + 1, greatest - 1}

var filters = []raw.Filter{raw.Box, raw.Cubic, raw.Lanczos}

func gauss(sigma int64) op.Op               { return op.Op{Kind: op.Gauss, Sigma: sigma} }
func blur(radius int) op.Op                 { return op.Op{Kind: op.Blur, Radius: radius} }
func kernel(x, y []int64) op.Op             { return op.Op{Kind: op.Kernel, X: x, Y: y} }
func resizeTo(w, h int, f raw.Filter) op.Op { return op.Op{Kind: op.Resize, W: w, H: h, Filter: f} }
func with(p border.Policy, o op.Op) op.Op   { o.Border = p; return o }

func tileOf(x, y, w, h int) plan.Tile { return plan.Tile{Out: plan.Rect{X: x, Y: y, W: w, H: h}} }

// whole: the tile that is all that a stage leads to.
func whole(s op.Stage) plan.Tile { return tileOf(0, 0, s.X.To(), s.Y.To()) }

func makeStage(t *testing.T, o op.Op, width, height int) op.Stage {
	t.Helper()
	s, e := op.Make(o, width, height)
	if e != api.OK {
		t.Fatalf("%v, of %d by %d: %d", o, width, height, e)
	}
	return s
}

func makeImage(t *testing.T, width, height, channels, most int, l ...uint16) *raster.Image {
	t.Helper()
	m, e := raster.Of(width, height, channels, most, l)
	if e != api.OK {
		t.Fatalf("%d by %d, of %d up to %d: %d", width, height, channels, most, e)
	}
	return m
}

// blank: an image of noughts.
func blank(t *testing.T, width, height, channels, most int) *raster.Image {
	t.Helper()
	m, e := raster.New(width, height, channels, most)
	if e != api.OK {
		t.Fatalf("%d by %d, of %d up to %d: %d", width, height, channels, most, e)
	}
	return m
}

// noise: an image of any samples, the least and the greatest one often among them.
func noise(t *testing.T, width, height, channels, most int) *raster.Image {
	t.Helper()
	r := rand.New(rand.NewSource(int64(width + 100*height + 10000*channels + most)))
	l := make([]uint16, width*height*channels)
	for i := range l {
		l[i] = []uint16{0, uint16(most), uint16(r.Intn(most + 1)), uint16(r.Intn(most + 1))}[r.Intn(4)]
	}
	return makeImage(t, width, height, channels, most, l...)
}

// outputFor: an image that a stage's output may go into, with samples of its own.
func outputFor(t *testing.T, from *raster.Image, s op.Stage) *raster.Image {
	t.Helper()
	return noise(t, s.X.To(), s.Y.To(), from.Channels(), from.Most())
}

func makeJob(t *testing.T, from, to *raster.Image, s op.Stage, tile plan.Tile) *Job {
	t.Helper()
	j, e := New(from, to, s, tile)
	if e != api.OK || j == nil {
		t.Fatalf("tile %v: %v, %d", tile, j, e)
	}
	return j
}

func resizeTable(t *testing.T, f raw.Filter, n, m int) *table.Table {
	t.Helper()
	x, e := table.Resize(f, n, m)
	if e != api.OK {
		t.Fatalf("filter %d, from %d to %d: %d", f, n, m, e)
	}
	return x
}

func filterTable(t *testing.T, n int, l ...int64) *table.Table {
	t.Helper()
	x, e := table.Filter(l, n)
	if e != api.OK {
		t.Fatalf("%d weights, of %d: %d", len(l), n, e)
	}
	return x
}

// comeOut: by package direct, all samples.
func comeOut(t *testing.T, from *raster.Image, s op.Stage) *raster.Image {
	t.Helper()
	m, e := direct.Apply(from, s)
	if e != api.OK {
		t.Fatal(e)
	}
	return m
}

// someImages: of one and three channels, of several sizes and greatest samples.
func someImages(t *testing.T) []*raster.Image {
	t.Helper()
	return []*raster.Image{
		makeImage(t, 1, 1, 1, 255, 7),
		makeImage(t, 1, 1, 3, 65535, 0, 65535, 300),
		noise(t, 6, 1, 1, 255),
		noise(t, 1, 5, 3, 1),
		noise(t, 4, 3, 3, 255),
		noise(t, 5, 7, 1, 65535),
		noise(t, 7, 6, 3, 65535),
		noise(t, 3, 4, 1, 1),
	}
}

// someOps: of all kinds; weights below 0; resizes up, down, and up one way and down the other.
func someOps() []op.Op {
	l := []op.Op{
		gauss(1), gauss(40000), gauss(150000),
		blur(0), blur(1), blur(2), blur(9),
		kernel([]int64{1, 2, 1}, []int64{1}),
		kernel([]int64{1}, []int64{3, 0, 1}),
		kernel([]int64{-1, 4, -1}, []int64{-2, 7, -1}),
		kernel([]int64{-1, -2, 9, 0, 1}, []int64{5, -3, 0, -1, 1, 2, 0}),
		kernel([]int64{0, 0, 0, 0, 1}, []int64{1, 0, 0}),
	}
	for _, f := range filters {
		for _, to := range [][2]int{{1, 1}, {2, 3}, {9, 8}, {11, 2}, {2, 13}, {4, 4}} {
			l = append(l, resizeTo(to[0], to[1], f))
		}
	}
	return l
}

// eachStage: of all images, operations and borders; and of each operation along rows with another one along columns.
func eachStage(t *testing.T, do func(name string, m *raster.Image, s op.Stage)) {
	t.Helper()
	l := someOps()
	for i, m := range someImages(t) {
		for k, o := range l {
			for _, p := range borders {
				s := makeStage(t, with(p, o), m.Width(), m.Height())
				do(fmt.Sprintf("image %d, %v", i, with(p, o)), m, s)
				other := l[(k+11)%len(l)]
				s.Y = makeStage(t, other, m.Width(), m.Height()).Y
				do(fmt.Sprintf("image %d, %v, and along columns %v", i, with(p, o), other), m, s)
			}
		}
	}
}

// someTiles: all of a stage's output, its corners, an inner part, and a row and a column of it.
func someTiles(s op.Stage) []plan.Tile {
	w, h := s.X.To(), s.Y.To()
	return []plan.Tile{
		whole(s),
		tileOf(0, 0, 1, 1), tileOf(w-1, 0, 1, 1), tileOf(0, h-1, 1, 1), tileOf(w-1, h-1, 1, 1),
		tileOf(w/3, h/3, (w+1)/2, (h+1)/2),
		tileOf(0, h/2, w, 1), tileOf(w/2, 0, 1, h),
	}
}

// plain is a job by the chapter's words: its steps, and how many rows its ring holds behind each.
type plain struct {
	moves []Move
	held  []int
}

// tellRoom: by the table's lines, the most taps of one.
func tellRoom(x *table.Table) int {
	most := 0
	for i := range x.To() {
		most = max(most, len(x.Line(i).Taps))
	}
	return most
}

// tellJob: by the chapter's words, with a plain list as the ring.
func tellJob(s op.Stage, out plan.Rect) plain {
	var p plain
	var held []int64
	room := tellRoom(s.Y)
	for y := out.Y; y < out.Y+out.H; y++ {
		l := s.Y.Line(y)
		for k := range l.Taps {
			j := l.First + int64(k)
			if slices.Contains(held, j) {
				continue
			}
			held = append(held, j)
			slices.Sort(held)
			held = held[max(0, len(held)-room):]
			p.moves, p.held = append(p.moves, Move{Filter, j}), append(p.held, len(held))
		}
		p.moves, p.held = append(p.moves, Move{Write, int64(y)}), append(p.held, len(held))
	}
	return p
}

// checkRows: has the output what comes out in the tile's rows above end, and elsewhere what it had?
func checkRows(t *testing.T, name string, to, had, want *raster.Image, out plan.Rect, end int) {
	t.Helper()
	for y := range to.Height() {
		for x := range to.Width() {
			source := had
			if x >= out.X && x < out.X+out.W && y >= out.Y && y < end {
				source = want
			}
			for c := range to.Channels() {
				if to.At(x, y, c) != source.At(x, y, c) {
					t.Fatalf("%s, up to row %d: at %d, %d, %d: %d, not %d", name, end, x, y, c, to.At(x, y, c), source.At(x, y, c))
				}
			}
		}
	}
}

// checkDone: is nothing left, however often it is asked?
func checkDone(t *testing.T, name string, j *Job) {
	t.Helper()
	held := j.Held()
	for range 3 {
		if a, b, n := j.Next(), j.Step(), j.Run(); a != (Move{}) || b != (Move{}) || n != 0 || j.Held() != held {
			t.Fatalf("%s: behind the last step %v, %v, %d, held %d of %d", name, a, b, n, j.Held(), held)
		}
	}
}

// checkJob: does a job go on, step by step, as the chapter's words tell, and make what comes out?
func checkJob(t *testing.T, name string, from *raster.Image, s op.Stage, tile plan.Tile, want *raster.Image) {
	t.Helper()
	name = fmt.Sprintf("%s, tile %v", name, tile.Out)
	told := tellJob(s, tile.Out)
	to := outputFor(t, from, s)
	had, source := to.Copy(), from.Copy()
	j := makeJob(t, from, to, s, tile)
	if n := Steps(s, tile); n != len(told.moves) {
		t.Fatalf("%s: %d steps, not %d", name, n, len(told.moves))
	}
	if j.Held() != 0 || j.Words() != tellRoom(s.Y)*tile.Out.W*from.Channels() || j.Tile() != tile {
		t.Fatalf("%s: holds %d, of %d, tile %v", name, j.Held(), j.Words(), j.Tile())
	}
	for i, move := range told.moves {
		if a, b, c := j.Next(), j.Next(), j.Step(); a != move || b != move || c != move {
			t.Fatalf("%s, step %d: %v, %v, %v, not %v", name, i, a, b, c, move)
		}
		if n := j.Held(); n != told.held[i] || n > tellRoom(s.Y) {
			t.Fatalf("%s, step %d: holds %d, not %d", name, i, n, told.held[i])
		}
		if move.Kind == Write {
			checkRows(t, name, to, had, want, tile.Out, int(move.Row)+1)
		}
	}
	checkDone(t, name, j)
	checkRows(t, name, to, had, want, tile.Out, tile.Out.Y+tile.Out.H)
	if !from.Same(source) {
		t.Fatalf("%s: the source is another", name)
	}
}

// checkCode: does New tell this code, and no job? The images stay.
func checkCode(t *testing.T, name string, from, to *raster.Image, s op.Stage, tile plan.Tile, want api.Code) {
	t.Helper()
	var source, had *raster.Image
	if from != nil {
		source = from.Copy()
	}
	if to != nil {
		had = to.Copy()
	}
	j, e := New(from, to, s, tile)
	if e != want || (j != nil) != (want == api.OK) {
		t.Errorf("%s: %v, %d, not %d", name, j, e, want)
	}
	if !from.Same(source) || !to.Same(had) {
		t.Errorf("%s: an image is another", name)
	}
}

// notTiles: of a stage, tiles that are empty, or reach beyond its output.
func notTiles(s op.Stage) []plan.Tile {
	w, h := s.X.To(), s.Y.To()
	l := []plan.Tile{
		{}, tileOf(0, 0, w, 0), tileOf(0, 0, 0, h), tileOf(w, 0, 0, h), tileOf(0, h, w, 0), tileOf(w, h, 0, 0),
		tileOf(0, 0, w+1, h), tileOf(0, 0, w, h+1), tileOf(0, 0, w+1, h+1),
		tileOf(-1, 0, w, h), tileOf(0, -1, w, h), tileOf(-1, -1, w+1, h+1), tileOf(-1, 0, w+1, h), tileOf(0, -1, w, h+1),
		tileOf(1, 0, w, h), tileOf(0, 1, w, h), tileOf(w-1, 0, 2, h), tileOf(0, h-1, w, 2),
		tileOf(w, 0, 1, 1), tileOf(0, h, 1, 1), tileOf(w, h, 1, 1), tileOf(-1, 0, 1, 1), tileOf(0, -1, 1, 1), tileOf(-w, 0, w, h), tileOf(0, -h, w, h),
		tileOf(w, 0, -1, h), tileOf(0, h, w, -1), tileOf(w, 0, -w, h), tileOf(0, h, w, -h), tileOf(w, h, -w, -h),
		tileOf(1, 0, greatest, 1), tileOf(0, 1, 1, greatest), tileOf(greatest, 0, 1, 1), tileOf(0, greatest, 1, 1),
		tileOf(greatest, greatest, greatest, greatest), tileOf(least, least, least, least), tileOf(least, 0, greatest, h), tileOf(0, least, w, greatest),
		tileOf(1<<32, 0, 1, 1), tileOf(0, 1<<32, 1, 1), tileOf(-1<<32, 0, 1, 1), tileOf(0, -1<<32, 1, 1),
		tileOf(0, 0, 1+1<<32, 1), tileOf(0, 0, 1, 1+1<<32), tileOf(0, 0, 1-1<<32, 1), tileOf(0, 0, 1, 1-1<<32),
		tileOf(least, 0, least, 1), tileOf(0, least, 1, least), tileOf(greatest, 0, least, 1), tileOf(0, greatest, 1, least), tileOf(0, 0, least, 1), tileOf(0, 0, 1, least),
	}
	for i := range l {
		// What a tile of the output would say beside it doesn't help.
		l[i].CountX, l[i].CountY, l[i].Ring = w, h, tellRoom(s.Y)
	}
	return l
}

// P17.1: no source, no output, neither: BadOp, whatever the rest is.
func TestNewWithoutImages(t *testing.T) {
	m := noise(t, 5, 4, 1, 255)
	for _, s := range []op.Stage{makeStage(t, blur(1), 5, 4), makeStage(t, resizeTo(3, 9, raw.Box), 5, 4), {}} {
		for _, tile := range []plan.Tile{tileOf(0, 0, 3, 4), tileOf(0, 0, 1, 1), {}, tileOf(-1, 0, 9, 9)} {
			checkCode(t, "no source", nil, m, s, tile, api.BadOp)
			checkCode(t, "no output", m, nil, s, tile, api.BadOp)
			checkCode(t, "no image", nil, nil, s, tile, api.BadOp)
		}
	}
}

// P17.1: one image as source and as output: BadOp; another one with the same samples may be.
func TestNewSameImage(t *testing.T) {
	for _, m := range []*raster.Image{noise(t, 5, 4, 1, 255), noise(t, 5, 4, 3, 65535), noise(t, 5, 4, 1, 1)} {
		for _, o := range []op.Op{blur(0), blur(1), gauss(9), kernel([]int64{1}, []int64{1}), resizeTo(5, 4, raw.Cubic)} {
			s := makeStage(t, o, 5, 4)
			checkCode(t, "one image", m, m, s, whole(s), api.BadOp)
			checkCode(t, "one image, one sample", m, m, s, tileOf(0, 0, 1, 1), api.BadOp)
			checkCode(t, "a copy", m, m.Copy(), s, whole(s), api.OK)
		}
	}
}

// P17.1: a stage without a table along rows, along columns, without both: BadOp.
func TestNewWithoutTables(t *testing.T) {
	from, to := noise(t, 5, 4, 1, 255), blank(t, 5, 4, 1, 255)
	x, y := table.Same(5), table.Same(4)
	for _, p := range append([]border.Policy{0, 1, 2}, notBorders...) {
		for _, tile := range []plan.Tile{tileOf(0, 0, 5, 4), tileOf(0, 0, 1, 1), {}} {
			checkCode(t, "without X", from, to, op.Stage{Y: y, Border: p}, tile, api.BadOp)
			checkCode(t, "without Y", from, to, op.Stage{X: x, Border: p}, tile, api.BadOp)
			checkCode(t, "without both", from, to, op.Stage{Border: p}, tile, api.BadOp)
		}
	}
}

// P17.1: tables from another width, or another height, than the source has: BadOp, also where the output is as they lead to.
func TestNewFromOthers(t *testing.T) {
	from := noise(t, 5, 4, 3, 255)
	same := blank(t, 5, 4, 3, 255)
	for _, p := range borders {
		for _, n := range []int{1, 2, 3, 6, 7, 10, 15, 20} {
			checkCode(t, "of another width", from, blank(t, n, 4, 3, 255), op.Stage{X: table.Same(n), Y: table.Same(4), Border: p}, tileOf(0, 0, 1, 1), api.BadOp)
			checkCode(t, "of another height", from, blank(t, 5, n, 3, 255), op.Stage{X: table.Same(5), Y: table.Same(n), Border: p}, tileOf(0, 0, 1, 1), api.BadOp)
			checkCode(t, "from another width", from, same, op.Stage{X: resizeTable(t, raw.Box, n, 5), Y: table.Same(4), Border: p}, tileOf(0, 0, 5, 4), api.BadOp)
			checkCode(t, "from another height", from, same, op.Stage{X: table.Same(5), Y: resizeTable(t, raw.Cubic, n, 4), Border: p}, tileOf(0, 0, 5, 4), api.BadOp)
		}
		checkCode(t, "from a width of 4", from, same, op.Stage{X: resizeTable(t, raw.Lanczos, 4, 5), Y: table.Same(4), Border: p}, tileOf(0, 0, 5, 4), api.BadOp)
		checkCode(t, "from a height of 5", from, same, op.Stage{X: table.Same(5), Y: resizeTable(t, raw.Lanczos, 5, 4), Border: p}, tileOf(0, 0, 5, 4), api.BadOp)
		checkCode(t, "the wrong way round", from, blank(t, 4, 5, 3, 255), op.Stage{X: table.Same(4), Y: table.Same(5), Border: p}, tileOf(0, 0, 4, 5), api.BadOp)
	}
}

// P17.1: a border that there isn't: BadOp.
func TestNewBorders(t *testing.T) {
	from := noise(t, 5, 4, 1, 255)
	for _, o := range []op.Op{blur(0), blur(1), resizeTo(3, 9, raw.Box)} {
		s := makeStage(t, o, 5, 4)
		to := outputFor(t, from, s)
		for _, s.Border = range borders {
			checkCode(t, fmt.Sprint("border ", s.Border), from, to, s, whole(s), api.OK)
		}
		for _, s.Border = range notBorders {
			checkCode(t, fmt.Sprint("border ", s.Border), from, to, s, whole(s), api.BadOp)
		}
	}
}

// P17.1: an output that isn't as wide and high as the tables lead to: BadOp; as wide and high as the source may be too little, or too much.
func TestNewOutputSizes(t *testing.T) {
	for _, channels := range []int{1, 3} {
		from := noise(t, 5, 4, channels, 255)
		for _, o := range []op.Op{blur(1), gauss(1), kernel([]int64{1, 2, 1}, []int64{1}), resizeTo(5, 4, raw.Box), resizeTo(3, 7, raw.Cubic), resizeTo(9, 2, raw.Lanczos), resizeTo(4, 5, raw.Box), resizeTo(2, 2, raw.Box)} {
			s := makeStage(t, o, 5, 4)
			w, h := s.X.To(), s.Y.To()
			for _, d := range [][2]int{{1, 0}, {-1, 0}, {0, 1}, {0, -1}, {1, 1}, {-1, -1}, {1, -1}, {-1, 1}, {w, 0}, {0, h}, {9, 9}} {
				to := blank(t, w+d[0], h+d[1], channels, 255)
				checkCode(t, fmt.Sprintf("%v into %d by %d", o, w+d[0], h+d[1]), from, to, s, tileOf(0, 0, 1, 1), api.BadOp)
			}
			checkCode(t, fmt.Sprint(o), from, blank(t, w, h, channels, 255), s, tileOf(0, 0, 1, 1), api.OK)
			if w != h {
				checkCode(t, "the wrong way round", from, blank(t, h, w, channels, 255), s, tileOf(0, 0, 1, 1), api.BadOp)
			}
			if w != 5 || h != 4 {
				checkCode(t, "as the source", from, blank(t, 5, 4, channels, 255), s, tileOf(0, 0, 1, 1), api.BadOp)
			}
		}
	}
}

// P17.1: an output with other channels, or another greatest sample, than the source has: BadOp.
func TestNewOutputKinds(t *testing.T) {
	s := makeStage(t, resizeTo(3, 7, raw.Cubic), 5, 4)
	for _, most := range []int{1, 2, 254, 255, 256, 65534, 65535} {
		for _, channels := range []int{1, 3} {
			from := noise(t, 5, 4, channels, most)
			checkCode(t, "the same", from, blank(t, 3, 7, channels, most), s, whole(s), api.OK)
			checkCode(t, "other channels", from, blank(t, 3, 7, 4-channels, most), s, whole(s), api.BadOp)
			for _, other := range []int{1, 2, most - 1, most + 1, 254, 255, 256, 65534, 65535} {
				if other != most && other > 0 && other < side {
					checkCode(t, fmt.Sprintf("up to %d into one up to %d", most, other), from, blank(t, 3, 7, channels, other), s, whole(s), api.BadOp)
					checkCode(t, "both", from, blank(t, 3, 7, 4-channels, other), s, whole(s), api.BadOp)
				}
			}
		}
	}
}

// P17.1, P17.2: a tile that is empty, or reaches beyond the output: BadTile, and no steps.
func TestNewTiles(t *testing.T) {
	for _, channels := range []int{1, 3} {
		from := noise(t, 5, 4, channels, 255)
		for _, o := range []op.Op{blur(1), resizeTo(3, 7, raw.Box), resizeTo(9, 2, raw.Lanczos), resizeTo(1, 1, raw.Cubic)} {
			s := makeStage(t, o, 5, 4)
			to := outputFor(t, from, s)
			for _, tile := range notTiles(s) {
				checkCode(t, fmt.Sprintf("%v, tile %v", o, tile.Out), from, to, s, tile, api.BadTile)
				if n := Steps(s, tile); n != 0 {
					t.Errorf("%v, tile %v: %d steps", o, tile.Out, n)
				}
			}
		}
	}
}

// P17.1: BadOp goes ahead of BadTile.
func TestNewFirstCode(t *testing.T) {
	from := noise(t, 5, 4, 1, 255)
	s := makeStage(t, blur(1), 5, 4)
	none := s
	none.Border = 3
	for _, tile := range notTiles(s) {
		checkCode(t, "no source", nil, from.Copy(), s, tile, api.BadOp)
		checkCode(t, "no output", from, nil, s, tile, api.BadOp)
		checkCode(t, "one image", from, from, s, tile, api.BadOp)
		checkCode(t, "no border", from, from.Copy(), none, tile, api.BadOp)
		checkCode(t, "no tables", from, from.Copy(), op.Stage{}, tile, api.BadOp)
		checkCode(t, "too wide", from, blank(t, 6, 4, 1, 255), s, tile, api.BadOp)
		checkCode(t, "too low", from, blank(t, 5, 3, 1, 255), s, tile, api.BadOp)
		checkCode(t, "other channels", from, blank(t, 5, 4, 3, 255), s, tile, api.BadOp)
		checkCode(t, "another greatest sample", from, blank(t, 5, 4, 1, 256), s, tile, api.BadOp)
		checkCode(t, "from another width", blank(t, 6, 4, 1, 255), from, s, tile, api.BadOp)
	}
}

// P17.1, P17.3: each part of an output may be a tile.
func TestEachPart(t *testing.T) {
	from := noise(t, 4, 3, 1, 255)
	for _, o := range []op.Op{with(border.Mirror, blur(1)), with(border.Wrap, resizeTo(3, 4, raw.Cubic)), resizeTo(3, 2, raw.Box)} {
		s := makeStage(t, o, 4, 3)
		want := comeOut(t, from, s)
		for x := range s.X.To() {
			for y := range s.Y.To() {
				for w := range s.X.To() - x {
					for h := range s.Y.To() - y {
						checkJob(t, fmt.Sprint(o), from, s, tileOf(x, y, w+1, h+1), want)
					}
				}
			}
		}
	}
}

// P17.1, P17.2: what a tile says beside its Out isn't looked at, but told.
func TestTileRest(t *testing.T) {
	from := noise(t, 4, 5, 3, 255)
	for _, o := range []op.Op{with(border.Wrap, gauss(60000)), resizeTo(7, 3, raw.Lanczos)} {
		s := makeStage(t, o, 4, 5)
		want := comeOut(t, from, s)
		out := plan.Rect{X: 1, Y: 1, W: 2, H: 2}
		for _, n := range []int{0, -1, 1, 2, 5, least, greatest, 1 << 32} {
			for _, tile := range []plan.Tile{
				{Number: n, Out: out}, {Out: out, X: int64(n)}, {Out: out, Y: int64(n)},
				{Out: out, CountX: n}, {Out: out, CountY: n}, {Out: out, Ring: n},
				{Number: n, Out: out, X: int64(n), Y: int64(n), CountX: n, CountY: n, Ring: n},
			} {
				checkJob(t, fmt.Sprint(o, tile), from, s, tile, want)
			}
		}
	}
}

// checkMoves: are these a job's steps?
func checkMoves(t *testing.T, name string, s op.Stage, tile plan.Tile, want ...Move) {
	t.Helper()
	from := noise(t, s.X.From(), s.Y.From(), 1, 255)
	j := makeJob(t, from, outputFor(t, from, s), s, tile)
	for i, move := range append(want, Move{}, Move{}) {
		if got := j.Step(); got != move {
			t.Fatalf("%s, step %d: %v, not %v", name, i, got, move)
		}
	}
	if n := Steps(s, tile); n != len(want) {
		t.Errorf("%s: %d steps, not %d", name, n, len(want))
	}
}

// P17.2: the chapter's example.
func TestExample(t *testing.T) {
	for _, height := range []int{1, 2, 9} {
		s := makeStage(t, blur(1), 3, height)
		checkMoves(t, fmt.Sprint("of ", height), s, tileOf(0, 0, 3, 1), Move{Filter, -1}, Move{Filter, 0}, Move{Filter, 1}, Move{Write, 0})
	}
}

// P17.2: the numbers of the kinds.
func TestKinds(t *testing.T) {
	if Done != 0 || Filter != 1 || Write != 2 || (Move{}) != (Move{Done, 0}) {
		t.Errorf("%d, %d, %d", Done, Filter, Write)
	}
}

// P17.2: steps written out.
func TestMovesWrittenOut(t *testing.T) {
	f := func(j int64) Move { return Move{Filter, j} }
	w := func(y int64) Move { return Move{Write, y} }
	s := makeStage(t, blur(0), 2, 3)
	checkMoves(t, "itself", s, whole(s), f(0), w(0), f(1), w(1), f(2), w(2))
	checkMoves(t, "itself, from row 1", s, tileOf(0, 1, 1, 2), f(1), w(1), f(2), w(2))
	for _, p := range borders {
		s = makeStage(t, with(p, blur(1)), 2, 3)
		checkMoves(t, "a blur", s, whole(s), f(-1), f(0), f(1), w(0), f(2), w(1), f(3), w(2))
		checkMoves(t, "a blur's last row", s, tileOf(1, 2, 1, 1), f(1), f(2), f(3), w(2))
		s = makeStage(t, with(p, blur(3)), 2, 2)
		checkMoves(t, "a greater blur", s, whole(s), f(-3), f(-2), f(-1), f(0), f(1), f(2), f(3), w(0), f(4), w(1))
	}
	s = makeStage(t, kernel([]int64{1, 2, 3, 2, 1}, []int64{0, 0, 0, 0, 1}), 2, 2)
	checkMoves(t, "a kernel with noughts", s, whole(s), f(-2), f(-1), f(0), f(1), f(2), w(0), f(3), w(1))
	s = makeStage(t, resizeTo(1, 2, raw.Box), 2, 4)
	checkMoves(t, "a half", s, whole(s), f(0), f(1), w(0), f(2), f(3), w(1))
	s = makeStage(t, resizeTo(1, 1, raw.Box), 2, 4)
	checkMoves(t, "one", s, whole(s), f(0), f(1), f(2), f(3), w(0))
	s = makeStage(t, resizeTo(1, 3, raw.Box), 2, 4)
	checkMoves(t, "three of four", s, whole(s), f(0), f(1), w(0), f(2), w(1), f(3), w(2))
	checkMoves(t, "the midst of three of four", s, tileOf(0, 1, 1, 1), f(1), f(2), w(1))
	s = makeStage(t, resizeTo(3, 4, raw.Box), 3, 2)
	checkMoves(t, "twice", s, whole(s), f(0), w(0), w(1), f(1), w(2), w(3))
	s = makeStage(t, resizeTo(3, 2, raw.Cubic), 3, 1)
	checkMoves(t, "cubic", s, whole(s), f(-2), f(-1), f(0), f(1), w(0), f(2), w(1))
	s = makeStage(t, resizeTo(3, 1, raw.Lanczos), 3, 2)
	checkMoves(t, "lanczos", s, whole(s), f(-5), f(-4), f(-3), f(-2), f(-1), f(0), f(1), f(2), f(3), f(4), f(5), f(6), w(0))
}

// P17.2, P17.3: all steps, what the ring holds behind each, and all samples behind each Write, by the chapter's words.
func TestEachStage(t *testing.T) {
	eachStage(t, func(name string, m *raster.Image, s op.Stage) {
		t.Helper()
		want := comeOut(t, m, s)
		for _, tile := range someTiles(s) {
			checkJob(t, name, m, s, tile, want)
		}
	})
}

// P17.2, P17.3: of all sizes up to some, by all filters; no step but the chapter's.
func TestResizes(t *testing.T) {
	for _, f := range filters {
		for n := 1; n <= 9; n++ {
			for m := 1; m <= 11; m++ {
				for i, p := range borders {
					from := noise(t, 1+i, n, 1, 255)
					s := op.Stage{X: table.Same(1 + i), Y: resizeTable(t, f, n, m), Border: p}
					want := comeOut(t, from, s)
					checkJob(t, fmt.Sprintf("filter %d, from %d to %d", f, n, m), from, s, whole(s), want)
					checkJob(t, fmt.Sprintf("filter %d, from %d to %d", f, n, m), from, s, tileOf(i, m/3, 1, (m+1)/2), want)
					from = noise(t, n, 1+i, 3, 65535)
					s = op.Stage{X: resizeTable(t, f, n, m), Y: table.Same(1 + i), Border: p}
					checkJob(t, fmt.Sprintf("filter %d, along rows from %d to %d", f, n, m), from, s, tileOf(m/3, 0, (m+1)/2, 1), comeOut(t, from, s))
				}
			}
		}
	}
}

// P17.2, P17.3: no source row is filtered twice, each of the tile's rows is written once, from the top.
func TestOnce(t *testing.T) {
	eachStage(t, func(name string, m *raster.Image, s op.Stage) {
		t.Helper()
		to := outputFor(t, m, s)
		for _, tile := range someTiles(s) {
			j := makeJob(t, m, to, s, tile)
			filtered := map[int64]bool{}
			y := int64(tile.Out.Y)
			for move := j.Step(); move.Kind != Done; move = j.Step() {
				if move.Kind == Filter {
					if filtered[move.Row] {
						t.Fatalf("%s, tile %v: row %d twice", name, tile.Out, move.Row)
					}
					filtered[move.Row] = true
					continue
				}
				if move != (Move{Write, y}) {
					t.Fatalf("%s, tile %v: %v, not row %d", name, tile.Out, move, y)
				}
				y++
			}
			if y != int64(tile.Out.Y+tile.Out.H) {
				t.Fatalf("%s, tile %v: up to row %d", name, tile.Out, y)
			}
		}
	})
}

// P17.2: asking, in whatever order, changes nothing.
func TestAskingChangesNothing(t *testing.T) {
	from := noise(t, 4, 5, 1, 255)
	s := makeStage(t, gauss(40000), 4, 5)
	to := outputFor(t, from, s)
	tile := plan.Tile{Number: 3, Out: plan.Rect{X: 1, Y: 1, W: 2, H: 3}, X: 9, Y: -9, CountX: 7, CountY: 8, Ring: 2}
	j := makeJob(t, from, to, s, tile)
	told := tellJob(s, tile.Out)
	held := 0
	for i, move := range append(told.moves, Move{}) {
		had := to.Copy()
		for range 3 {
			if j.Next() != move || j.Held() != held || j.Words() != 2*5 || j.Tile() != tile || Steps(s, tile) != len(told.moves) {
				t.Fatalf("step %d: %v, holds %d of %d, tile %v", i, j.Next(), j.Held(), j.Words(), j.Tile())
			}
		}
		if !to.Same(had) {
			t.Fatalf("step %d: the output is another", i)
		}
		if got := j.Step(); got != move {
			t.Fatalf("step %d: %v, not %v", i, got, move)
		}
		if move.Kind == Filter && !to.Same(had) {
			t.Fatalf("step %d: a Filter changed the output", i)
		}
		held = told.held[min(i, len(told.held)-1)]
	}
}

// P17.2: what the ring holds, written out: it fills up to its room, and stays full.
func TestHeld(t *testing.T) {
	for _, c := range []struct {
		o      op.Op
		height int
		tile   plan.Tile
		want   []int
	}{
		{blur(0), 3, tileOf(0, 0, 2, 3), []int{1, 1, 1, 1, 1, 1}},
		{blur(1), 3, tileOf(0, 0, 2, 3), []int{1, 2, 3, 3, 3, 3, 3, 3}},
		{blur(1), 3, tileOf(1, 2, 1, 1), []int{1, 2, 3, 3}},
		{resizeTo(1, 2, raw.Box), 4, tileOf(0, 0, 1, 2), []int{1, 2, 2, 2, 2, 2}},
		// Of 5 to 3 the lines have 2, 3 and 2 taps: there is room for 3.
		{resizeTo(1, 3, raw.Box), 5, tileOf(0, 0, 1, 3), []int{1, 2, 2, 3, 3, 3, 3, 3}},
		{resizeTo(1, 3, raw.Box), 5, tileOf(0, 2, 1, 1), []int{1, 2, 2}},
		{resizeTo(1, 4, raw.Box), 2, tileOf(0, 0, 1, 4), []int{1, 1, 1, 1, 1, 1}},
	} {
		s := makeStage(t, c.o, 2, c.height)
		from := noise(t, 2, c.height, 1, 255)
		j := makeJob(t, from, outputFor(t, from, s), s, c.tile)
		if j.Held() != 0 {
			t.Errorf("%v: %d at first", c.o, j.Held())
		}
		var got []int
		for j.Step().Kind != Done {
			got = append(got, j.Held())
		}
		if !slices.Equal(got, c.want) {
			t.Errorf("%v, tile %v: %d, not %d", c.o, c.tile.Out, got, c.want)
		}
	}
}

// P17.2: the most taps along columns, times the tile's width, times the channels; whatever is done, and whatever the height.
func TestWords(t *testing.T) {
	for _, c := range []struct {
		o             op.Op
		width, height int
		tile          plan.Tile
		channels      int
		want          int
	}{
		{blur(0), 5, 4, tileOf(0, 0, 1, 1), 1, 1},
		{blur(0), 5, 4, tileOf(0, 0, 5, 4), 1, 5},
		{blur(0), 5, 4, tileOf(0, 0, 5, 4), 3, 15},
		{blur(1), 5, 4, tileOf(0, 0, 5, 4), 1, 15},
		{blur(1), 5, 4, tileOf(2, 1, 2, 1), 3, 18},
		{blur(511), 5, 4, tileOf(4, 3, 1, 1), 1, 1023},
		{blur(511), 5, 4, tileOf(0, 3, 5, 1), 3, 15345},
		{kernel([]int64{1, 2, 1, 0, 0}, []int64{1}), 5, 4, tileOf(0, 0, 5, 4), 1, 5},
		{kernel([]int64{1}, []int64{1, 2, 1, 0, 0}), 5, 4, tileOf(0, 0, 5, 4), 1, 25},
		{gauss(1 << 16), 5, 4, tileOf(0, 0, 3, 4), 1, 21},
		{resizeTo(5, 2, raw.Box), 5, 4, tileOf(0, 0, 5, 2), 1, 10},
		// From 5 to 3 the outer lines have two taps, the one in the midst three.
		{resizeTo(9, 3, raw.Box), 2, 5, tileOf(0, 0, 9, 1), 1, 27},
		{resizeTo(9, 3, raw.Box), 2, 5, tileOf(8, 2, 1, 1), 1, 3},
		{resizeTo(1, 1, raw.Lanczos), 5, 4, tileOf(0, 0, 1, 1), 1, 24},
		{resizeTo(1, 8, raw.Box), 5, 4, tileOf(0, 0, 1, 8), 1, 1},
		{blur(1), side, 1, tileOf(0, 0, side, 1), 3, 3 * 3 * side},
		{blur(511), side, 1, tileOf(0, 0, side, 1), 1, 1023 * side},
	} {
		s := makeStage(t, c.o, c.width, c.height)
		from := blank(t, c.width, c.height, c.channels, 255)
		j := makeJob(t, from, blank(t, s.X.To(), s.Y.To(), c.channels, 255), s, c.tile)
		if n := j.Words(); n != c.want {
			t.Errorf("%v, tile %v, %d channels: %d words, not %d", c.o, c.tile.Out, c.channels, n, c.want)
		}
		j.Step()
		j.Step()
		if n := j.Words(); n != c.want {
			t.Errorf("%v, tile %v, %d channels: %d words behind two steps, not %d", c.o, c.tile.Out, c.channels, n, c.want)
		}
	}
}

// P17.2: a tile's numbers have the room that its plan tells.
func TestWordsOfPlans(t *testing.T) {
	eachStage(t, func(name string, m *raster.Image, s op.Stage) {
		t.Helper()
		p, e := plan.New(s, 3, 2)
		if e != api.OK {
			t.Fatal(e)
		}
		most := 0
		to := outputFor(t, m, s)
		for _, tile := range p.All() {
			most = max(most, makeJob(t, m, to, s, tile).Words())
		}
		if want := p.Scratch(m.Channels()); most != want {
			t.Fatalf("%s: %d words, not %d", name, most, want)
		}
	})
}

// P17.2, P17.3: Run of a job of which nothing, something or all is done: how many were left; and what it makes.
func TestRun(t *testing.T) {
	from := noise(t, 4, 5, 3, 255)
	for _, o := range []op.Op{blur(1), with(border.Wrap, blur(4)), resizeTo(7, 3, raw.Lanczos), resizeTo(3, 8, raw.Box)} {
		s := makeStage(t, o, 4, 5)
		want := comeOut(t, from, s)
		for _, tile := range someTiles(s) {
			told := tellJob(s, tile.Out)
			for done := range len(told.moves) + 3 {
				to := outputFor(t, from, s)
				had := to.Copy()
				j := makeJob(t, from, to, s, tile)
				for range done {
					j.Step()
				}
				if n := j.Run(); n != max(0, len(told.moves)-done) {
					t.Fatalf("%v, tile %v: %d steps, of %d behind %d", o, tile.Out, n, len(told.moves), done)
				}
				if j.Held() != told.held[len(told.held)-1] {
					t.Fatalf("%v, tile %v: holds %d", o, tile.Out, j.Held())
				}
				checkDone(t, fmt.Sprint(o), j)
				checkRows(t, fmt.Sprint(o), to, had, want, tile.Out, tile.Out.Y+tile.Out.H)
			}
		}
	}
}

// P17.2: how many steps, written out: each row that the tile takes, and each of its own.
func TestSteps(t *testing.T) {
	for _, c := range []struct {
		o             op.Op
		width, height int
		tile          plan.Tile
		want          int
	}{
		{blur(0), 1, 1, tileOf(0, 0, 1, 1), 2},
		{blur(1), 1, 1, tileOf(0, 0, 1, 1), 4},
		{blur(1), 5, 4, tileOf(0, 0, 5, 1), 4},
		{blur(1), 5, 4, tileOf(4, 3, 1, 1), 4},
		{blur(1), 5, 4, tileOf(0, 0, 5, 4), 10},
		{blur(1), 5, 4, tileOf(0, 1, 5, 2), 6},
		{blur(511), 5, 4, tileOf(0, 0, 5, 4), 1030},
		{blur(0), side, side, tileOf(0, 0, side, side), 2 * side},
		{blur(511), side, side, tileOf(0, 0, side, side), 2*side + 1022},
		{kernel([]int64{1, 1, 1, 1, 1}, []int64{1}), 5, 4, tileOf(0, 0, 5, 4), 8},
		{kernel([]int64{1}, []int64{1, 1, 1, 1, 1}), 5, 4, tileOf(0, 0, 5, 4), 12},
		{resizeTo(1, 2, raw.Box), 5, 4, tileOf(0, 0, 1, 2), 6},
		{resizeTo(1, 2, raw.Box), 5, 4, tileOf(0, 1, 1, 1), 3},
		{resizeTo(3, 8, raw.Box), 5, 4, tileOf(0, 0, 3, 8), 12},
		{resizeTo(3, 1, raw.Lanczos), 5, 2, tileOf(0, 0, 3, 1), 13},
		{resizeTo(side, 1, raw.Box), 1, side, tileOf(0, 0, side, 1), side + 1},
		{resizeTo(1, side, raw.Box), side, 1, tileOf(0, 0, 1, side), side + 1},
	} {
		s := makeStage(t, c.o, c.width, c.height)
		for _, p := range append(notBorders, borders...) {
			s.Border = p
			if n := Steps(s, c.tile); n != c.want {
				t.Errorf("%v, tile %v: %d steps, not %d", c.o, c.tile.Out, n, c.want)
			}
		}
	}
}

// P17.2: without a table there are no steps, whatever the tile.
func TestStepsWithoutTables(t *testing.T) {
	s := makeStage(t, blur(1), 5, 4)
	for _, none := range []op.Stage{{}, {X: s.X}, {Y: s.Y}, {Y: s.Y, Border: border.Wrap}, {X: s.X, Border: -1}} {
		for _, tile := range append(notTiles(s), tileOf(0, 0, 1, 1), whole(s)) {
			if n := Steps(none, tile); n != 0 {
				t.Errorf("tile %v: %d steps", tile.Out, n)
			}
		}
	}
}

// P17.3: samples written out.
func TestSamples(t *testing.T) {
	row := makeImage(t, 3, 1, 1, 255, 0, 100, 200)
	bright := makeImage(t, 3, 1, 1, 255, 0, 100, 255)
	column := makeImage(t, 1, 3, 1, 255, 0, 100, 200)
	pixels := makeImage(t, 2, 2, 3, 255, 1, 2, 3, 10, 20, 30, 100, 200, 255, 4, 0, 8)
	quarter, edges := []int64{1, 2, 1}, []int64{-1, 4, -1}
	for i, c := range []struct {
		from *raster.Image
		o    op.Op
		tile plan.Tile
		want []uint16
	}{
		{row, kernel(quarter, []int64{1}), tileOf(0, 0, 3, 1), []uint16{25, 100, 175}},
		{row, with(border.Wrap, kernel(quarter, []int64{1})), tileOf(0, 0, 3, 1), []uint16{75, 100, 125}},
		{row, kernel(quarter, []int64{1}), tileOf(1, 0, 1, 1), []uint16{0, 100, 0}},
		{row, kernel(edges, []int64{1}), tileOf(0, 0, 3, 1), []uint16{0, 100, 250}},
		{bright, kernel(edges, []int64{1}), tileOf(0, 0, 3, 1), []uint16{0, 73, 255}},
		{column, kernel([]int64{1}, quarter), tileOf(0, 0, 1, 3), []uint16{25, 100, 175}},
		{column, with(border.Wrap, kernel([]int64{1}, quarter)), tileOf(0, 1, 1, 2), []uint16{0, 100, 125}},
		{column, kernel([]int64{1}, edges), tileOf(0, 0, 1, 3), []uint16{0, 100, 250}},
		{column, kernel([]int64{1}, []int64{1, 0, 0}), tileOf(0, 0, 1, 3), []uint16{0, 0, 100}},
		{column, kernel([]int64{1}, []int64{0, 0, 1}), tileOf(0, 0, 1, 3), []uint16{100, 200, 200}},
		{column, resizeTo(1, 1, raw.Box), tileOf(0, 0, 1, 1), []uint16{100}},
		{column, resizeTo(2, 6, raw.Box), tileOf(1, 1, 1, 4), []uint16{0, 0, 0, 0, 0, 100, 0, 100, 0, 200, 0, 0}},
		{pixels, blur(0), tileOf(0, 0, 2, 2), []uint16{1, 2, 3, 10, 20, 30, 100, 200, 255, 4, 0, 8}},
		{pixels, blur(0), tileOf(1, 0, 1, 2), []uint16{0, 0, 0, 10, 20, 30, 0, 0, 0, 4, 0, 8}},
		// 115 / 4 is 28.75, 222 / 4 is 55.5, and a half goes up; 296 / 4 is 74.
		{pixels, resizeTo(1, 1, raw.Box), tileOf(0, 0, 1, 1), []uint16{29, 56, 74}},
		{pixels, resizeTo(1, 2, raw.Box), tileOf(0, 1, 1, 1), []uint16{0, 0, 0, 52, 100, 132}},
		{pixels, with(border.Wrap, kernel([]int64{0, 0, 1}, []int64{1, 0, 0})), tileOf(0, 0, 2, 2), []uint16{4, 0, 8, 100, 200, 255, 10, 20, 30, 1, 2, 3}},
	} {
		s := makeStage(t, c.o, c.from.Width(), c.from.Height())
		to := blank(t, s.X.To(), s.Y.To(), c.from.Channels(), 255)
		makeJob(t, c.from, to, s, c.tile).Run()
		if got := to.Samples(); !slices.Equal(got, c.want) {
			t.Errorf("line %d: %d, not %d", i, got, c.want)
		}
	}
}

// P17.3: what a row is rounded to, and held at, by the image's greatest sample; a ring's numbers aren't rounded.
func TestRoundedOnce(t *testing.T) {
	for _, c := range []struct {
		most int
		from []uint16
		want uint16
	}{
		// Each of both rows is a half: rounded by itself, one row would make 1.
		{1, []uint16{1, 0, 0, 0}, 0},
		{1, []uint16{1, 1, 0, 0}, 1},
		{1, []uint16{1, 0, 0, 1}, 1},
		{255, []uint16{1, 0, 0, 0}, 0},
		{255, []uint16{255, 255, 255, 254}, 255},
		{255, []uint16{255, 255, 254, 254}, 255},
		{255, []uint16{255, 254, 254, 254}, 254},
		{65535, []uint16{65535, 65535, 65534, 65534}, 65535},
		{65535, []uint16{65535, 65534, 65534, 65534}, 65534},
	} {
		from := makeImage(t, 2, 2, 1, c.most, c.from...)
		s := makeStage(t, resizeTo(1, 1, raw.Box), 2, 2)
		to := blank(t, 1, 1, 1, c.most)
		makeJob(t, from, to, s, whole(s)).Run()
		if v := to.At(0, 0, 0); v != c.want {
			t.Errorf("%d, up to %d: %d, not %d", c.from, c.most, v, c.want)
		}
	}
}

// P17.3: tiles in whatever order, cut in whatever way, make one and the same output.
func TestTilesInAnyOrder(t *testing.T) {
	for seed, from := range []*raster.Image{noise(t, 9, 7, 1, 255), noise(t, 6, 8, 3, 65535), noise(t, 5, 11, 3, 1)} {
		for _, o := range []op.Op{blur(1), with(border.Mirror, blur(6)), with(border.Wrap, gauss(70000)), with(border.Wrap, resizeTo(4, 13, raw.Lanczos)), with(border.Mirror, resizeTo(12, 3, raw.Cubic)), resizeTo(7, 7, raw.Box)} {
			s := makeStage(t, o, from.Width(), from.Height())
			want := comeOut(t, from, s)
			for _, size := range [][2]int{{1, 1}, {2, 3}, {3, 2}, {5, 1}, {1, 5}, {4, 4}, {4096, 4096}, {4096, 1}} {
				p, e := plan.New(s, size[0], size[1])
				if e != api.OK {
					t.Fatal(e)
				}
				forward := p.All()
				backward := slices.Clone(forward)
				slices.Reverse(backward)
				mixed := slices.Clone(forward)
				random := rand.New(rand.NewSource(int64(seed)))
				random.Shuffle(len(mixed), func(i, k int) { mixed[i], mixed[k] = mixed[k], mixed[i] })
				for _, tiles := range [][]plan.Tile{forward, backward, mixed} {
					to := outputFor(t, from, s)
					for _, tile := range tiles {
						if n := makeJob(t, from, to, s, tile).Run(); n != Steps(s, tile) {
							t.Fatalf("%d steps, not %d", n, Steps(s, tile))
						}
					}
					if !to.Same(want) {
						t.Fatalf("image %d, %v, tiles of %d", seed, o, size)
					}
				}
				to := outputFor(t, from, s)
				byTurns(t, from, to, s, mixed, random)
				if !to.Same(want) {
					t.Fatalf("image %d, %v, tiles of %d, by turns", seed, o, size)
				}
			}
		}
	}
}

// byTurns: all tiles' jobs, step by step, whichever has its turn.
func byTurns(t *testing.T, from, to *raster.Image, s op.Stage, tiles []plan.Tile, random *rand.Rand) {
	t.Helper()
	var jobs []*Job
	for _, tile := range tiles {
		jobs = append(jobs, makeJob(t, from, to, s, tile))
	}
	for len(jobs) > 0 {
		i := random.Intn(len(jobs))
		if jobs[i].Step().Kind == Done {
			jobs = slices.Delete(jobs, i, i+1)
		}
	}
}

// P17.3: tiles that lie upon each other make the same; one that is done twice too.
func TestTilesTwice(t *testing.T) {
	from := noise(t, 6, 7, 3, 255)
	for _, o := range []op.Op{blur(2), resizeTo(5, 5, raw.Lanczos)} {
		s := makeStage(t, o, 6, 7)
		want := comeOut(t, from, s)
		to := outputFor(t, from, s)
		for _, tile := range []plan.Tile{whole(s), tileOf(0, 0, 3, 3), tileOf(2, 2, 3, 3), whole(s), tileOf(4, 0, 1, 5)} {
			makeJob(t, from, to, s, tile).Run()
			if !to.Same(want) {
				t.Errorf("%v, tile %v", o, tile.Out)
			}
		}
	}
}

// P17.3: jobs of one tile have nothing together but what they are made of.
func TestJobsAreApart(t *testing.T) {
	from := noise(t, 4, 5, 1, 255)
	s := makeStage(t, blur(1), 4, 5)
	want := comeOut(t, from, s)
	a, b := outputFor(t, from, s), outputFor(t, from, s)
	had := b.Copy()
	first, second := makeJob(t, from, a, s, whole(s)), makeJob(t, from, b, s, whole(s))
	if n := first.Run(); n != 12 || second.Held() != 0 || second.Next() != (Move{Filter, -1}) {
		t.Errorf("%d steps, the other one holds %d", n, second.Held())
	}
	if !a.Same(want) || !b.Same(had) {
		t.Errorf("not the first one's output alone")
	}
	if n := second.Run(); n != 12 || !b.Same(want) {
		t.Errorf("%d steps", n)
	}
}

// P17.3: neither images that a job isn't made for nor tables are changed by it.
func TestStays(t *testing.T) {
	eachStage(t, func(name string, m *raster.Image, s op.Stage) {
		t.Helper()
		lines := func() (l []string) {
			for i := range s.X.To() {
				l = append(l, fmt.Sprint(s.X.Line(i)))
			}
			for i := range s.Y.To() {
				l = append(l, fmt.Sprint(s.Y.Line(i)))
			}
			return l
		}
		source, before := m.Copy(), lines()
		makeJob(t, m, outputFor(t, m, s), s, whole(s)).Run()
		if !m.Same(source) || !slices.Equal(before, lines()) {
			t.Fatalf("%s: changed", name)
		}
	})
}

// heavyTables: of taps whose sums go beyond a number, some of them up to the heaviest that may be.
func heavyTables(t *testing.T, n int) []*table.Table {
	t.Helper()
	return []*table.Table{
		filterTable(t, n, 1<<40, -1<<40, 1<<28),
		filterTable(t, n, -1<<40, 1<<28, 1<<40),
		filterTable(t, n, 1<<40, 1<<28-1<<39, -1<<39),
		filterTable(t, n, 1<<38, 0, 1<<28-1<<38),
		filterTable(t, n, -1<<40, 1<<40, -1<<40, 1<<40, 1<<28, 1<<40, -1<<40),
		filterTable(t, n, -1<<40, 3<<28, 1<<40, -1<<29, 1<<20),
		table.Same(n),
	}
}

// P17.3: also where the sums of taps times a ring's numbers go beyond a number, what comes out is what the exact sum makes.
func TestHeavier(t *testing.T) {
	for i, m := range []*raster.Image{noise(t, 1, 1, 1, 65535), noise(t, 2, 2, 1, 65535), noise(t, 4, 3, 3, 65535), makeImage(t, 2, 2, 1, 65535, 65535, 0, 0, 65535), makeImage(t, 2, 2, 1, 65535, 0, 65535, 65535, 0), makeImage(t, 3, 2, 1, 65535, 9, 9, 9, 9, 9, 9)} {
		for k, x := range heavyTables(t, m.Width()) {
			for l, y := range heavyTables(t, m.Height()) {
				for _, p := range borders {
					s := op.Stage{X: x, Y: y, Border: p}
					checkJob(t, fmt.Sprintf("image %d, tables %d, %d, border %d", i, k, l, p), m, s, whole(s), comeOut(t, m, s))
				}
			}
		}
	}
}

// P17.3: of the heaviest tap above 0 and the heaviest one below it, whatever goes over both ways comes back.
func TestHeavierWrittenOut(t *testing.T) {
	// A row's numbers are about 2^26 times 65535, and a column's taps once more: about 2^68, of which 2^28 is one.
	s := op.Stage{X: filterTable(t, 3, 1<<40, -1<<40, 1<<28), Y: filterTable(t, 3, 1<<40, -1<<40, 1<<28)}
	for _, c := range []struct {
		from []uint16
		want uint16
	}{
		// Of the row and the column ahead of the midst 2^26, of the midst -2^26, of the last one 2^14.
		{[]uint16{65535, 0, 0, 0, 0, 0, 0, 0, 0}, 65535},
		{[]uint16{0, 65535, 0, 0, 0, 0, 0, 0, 0}, 0},
		{[]uint16{0, 0, 0, 65535, 0, 0, 0, 0, 0}, 0},
		{[]uint16{0, 0, 0, 0, 65535, 0, 0, 0, 0}, 65535},
		{[]uint16{0, 0, 0, 0, 0, 0, 0, 0, 77}, 77},
		{[]uint16{65535, 65535, 0, 0, 0, 0, 0, 0, 77}, 77},
		{[]uint16{65535, 0, 0, 65535, 0, 0, 0, 0, 77}, 77},
		{[]uint16{0, 0, 0, 65535, 65535, 0, 0, 0, 77}, 77},
		{[]uint16{65535, 65535, 0, 65535, 65535, 0, 0, 0, 77}, 77},
		{[]uint16{9, 9, 9, 9, 9, 9, 9, 9, 9}, 9},
	} {
		from := makeImage(t, 3, 3, 1, 65535, c.from...)
		to := blank(t, 3, 3, 1, 65535)
		makeJob(t, from, to, s, tileOf(1, 1, 1, 1)).Run()
		if v := to.At(1, 1, 0); v != c.want {
			t.Errorf("%d: %d, not %d", c.from, v, c.want)
		}
	}
}

// P17.2, P17.3: a table along columns with more taps than one ring has rows: rising, each row once, up to the room, and what comes out.
func TestManyRows(t *testing.T) {
	tall := noise(t, 1, side, 1, 255)
	long := make([]int64, 3*side+1)
	for i := range long {
		long[i] = int64(1+i%5) << 20
	}
	short := make([]int64, side+1)
	for i := range short {
		short[i] = unit
	}
	for i, c := range []struct {
		from *raster.Image
		s    op.Stage
		tile plan.Tile
		most int
	}{
		{tall, makeStage(t, resizeTo(1, 1, raw.Lanczos), 1, side), tileOf(0, 0, 1, 1), 6 * side},
		{tall, makeStage(t, with(border.Wrap, resizeTo(1, 2, raw.Lanczos)), 1, side), tileOf(0, 0, 1, 2), 3 * side},
		{tall, makeStage(t, with(border.Mirror, resizeTo(1, 3, raw.Cubic)), 1, side), tileOf(0, 1, 1, 2), 4*side/3 + 1},
		{tall, makeStage(t, resizeTo(1, 1, raw.Box), 1, side), tileOf(0, 0, 1, 1), side},
		{noise(t, 2, 3, 3, 255), op.Stage{X: table.Same(2), Y: filterTable(t, 3, long...), Border: border.Mirror}, tileOf(0, 0, 2, 3), 3*side + 1},
		{noise(t, 2, 900, 1, 255), op.Stage{X: table.Same(2), Y: filterTable(t, 900, short...), Border: border.Wrap}, tileOf(1, 3, 1, 9), side + 1},
	} {
		if n := c.s.Y.Most(); n < c.most-1 || n > c.most+1 {
			t.Fatalf("line %d: at most %d taps", i, n)
		}
		checkLong(t, fmt.Sprint("line ", i), c.from, c.s, c.tile)
	}
}

// checkLong: is a job as told, of lines that are too long for a plain list?
func checkLong(t *testing.T, name string, from *raster.Image, s op.Stage, tile plan.Tile) {
	t.Helper()
	to := outputFor(t, from, s)
	had := to.Copy()
	j := makeJob(t, from, to, s, tile)
	room := s.Y.Most()
	if n := j.Words(); n != room*tile.Out.W*from.Channels() {
		t.Errorf("%s: %d words", name, n)
	}
	steps, filtered := 0, 0
	next := s.Y.Line(tile.Out.Y).First
	for y := tile.Out.Y; y < tile.Out.Y+tile.Out.H; y++ {
		l := s.Y.Line(y)
		for ; next < l.First+int64(len(l.Taps)); next++ {
			steps++
			filtered++
			if move := j.Step(); move != (Move{Filter, next}) || j.Held() != min(filtered, room) {
				t.Fatalf("%s: %v, not row %d; holds %d", name, move, next, j.Held())
			}
		}
		steps++
		if move := j.Step(); move != (Move{Write, int64(y)}) || j.Held() != min(filtered, room) {
			t.Fatalf("%s: %v, not row %d; holds %d", name, move, y, j.Held())
		}
	}
	checkDone(t, name, j)
	if n := Steps(s, tile); n != steps {
		t.Errorf("%s: %d steps, not %d", name, n, steps)
	}
	checkRows(t, name, to, had, comeOut(t, from, s), tile.Out, tile.Out.Y+tile.Out.H)
}

// P17.1, P17.3: of the widest rows, the tile that is all of them, and one that is the last sample.
func TestWide(t *testing.T) {
	from := noise(t, side, 2, 3, 65535)
	for _, o := range []op.Op{with(border.Wrap, blur(3)), with(border.Mirror, resizeTo(side-7, 3, raw.Lanczos)), resizeTo(2, 1, raw.Box)} {
		s := makeStage(t, o, side, 2)
		want := comeOut(t, from, s)
		checkJob(t, fmt.Sprint(o), from, s, whole(s), want)
		checkJob(t, fmt.Sprint(o), from, s, tileOf(s.X.To()-1, s.Y.To()-1, 1, 1), want)
	}
}

// P17.3: lines of the most taps along rows.
func TestLongRows(t *testing.T) {
	l := make([]int64, 1<<20-1)
	for i := range l {
		l[i] = int64(i%1000) << 20
	}
	from := noise(t, 40, 2, 1, 255)
	for _, p := range borders {
		s := op.Stage{X: filterTable(t, 40, l...), Y: table.Same(2), Border: p}
		checkJob(t, fmt.Sprint("border ", p), from, s, whole(s), comeOut(t, from, s))
	}
}

// P17.3: sums of products at and beyond a number's ends, against unbounded integers.
func TestTotal(t *testing.T) {
	edges := []int64{0, 1, -1, 2, -2, 3, 1 << 31, -1 << 31, 1 << 32, 1<<32 - 1, -1 << 32, 1 << 46, -1 << 46, 1 << 61, -1 << 61, 1<<62 - 1, 1 << 62, -1 << 62, math.MaxInt64, math.MinInt64, math.MaxInt64 - 1, math.MinInt64 + 1}
	check := func(l ...int64) {
		t.Helper()
		var got total
		want := new(big.Int)
		for i := 0; i < len(l); i += 2 {
			got.add(l[i], l[i+1])
			want.Add(want, new(big.Int).Mul(big.NewInt(l[i]), big.NewInt(l[i+1])))
			if n := got.held(); n != tellHeld(want) {
				t.Fatalf("%d: %d, not %d", l[:i+2], n, want)
			}
		}
	}
	for _, a := range edges {
		for _, b := range edges {
			check(a, b)
			for _, c := range edges {
				check(a, b, c, 1, c, -1)
				if a != math.MinInt64 {
					// There and back again.
					check(a, b, c, 1, -a, b)
				}
			}
		}
	}
}

// tellHeld: at the least, or the greatest, number.
func tellHeld(x *big.Int) int64 {
	switch {
	case x.IsInt64():
		return x.Int64()
	case x.Sign() < 0:
		return math.MinInt64
	}
	return math.MaxInt64
}
