package op

import (
	"math"
	"math/rand"
	"reflect"
	"slices"
	"testing"

	"smalto/api"
	"smalto/border"
	"smalto/raw"
	"smalto/table"
	"smalto/taps"
)

const (
	least    = math.MinInt
	greatest = math.MaxInt
	side     = 1 << 16 // the greatest side
	topSigma = 1 << 22
	topSize  = 1 << 20 // the most that a user's weights have together, without sign
	topCount = 1023    // the most weights of a user that are odd in count
)

// beside: numbers that are none of those from 0 up to count.
func beside(count int) []int {
	return []int{-1, count, least, greatest, -2, count + 1, -count, 1 << 32, 1<<32 + 1, -1 << 32, -1<<32 + 1, 1 << 62, least + 1, greatest - 1}
}

var notSides = []int{0, side + 1, -1, least, greatest, -2, -4, -side, side + 2, 2 * side, 1 << 32, 1<<32 + 4, 1 << 62, -1 << 62, least + 1, greatest - 1}

// same: a list of so many of one number.
func same(x int64, count int) []int64 { return slices.Repeat([]int64{x}, count) }

func gauss(sigma int64) Op     { return Op{Kind: Gauss, Sigma: sigma} }
func blur(radius int) Op       { return Op{Kind: Blur, Radius: radius} }
func kernel(x, y []int64) Op   { return Op{Kind: Kernel, X: x, Y: y} }
func resizeTo(w, h int) Op     { return Op{Kind: Resize, W: w, H: h} }
func with(b int, o Op) Op      { o.Border = border.Policy(b); return o }
func by(f raw.Filter, o Op) Op { o.Filter = f; return o }

// four: an operation of each kind that may be.
func four() []Op {
	return []Op{gauss(40000), blur(2), kernel([]int64{1, 2, 1}, []int64{5}), resizeTo(3, 9)}
}

// tellLines: by the chapters' words, what an operation that may be makes of a side, along rows or along columns.
func tellLines(o Op, n int, rows bool) []table.Line {
	var l []int64
	switch {
	case o.Kind == Gauss:
		l, _ = taps.Gaussian(o.Sigma)
	case o.Kind == Blur:
		l, _ = taps.Blur(o.Radius)
	case o.Kind == Kernel && rows:
		l, _ = taps.User(o.X)
	case o.Kind == Kernel:
		l, _ = taps.User(o.Y)
	case rows:
		return tellResized(o.Filter, n, o.W)
	default:
		return tellResized(o.Filter, n, o.H)
	}
	return tellAround(l, n)
}

// tellAround: of raw weights, the same taps around each output.
func tellAround(l []int64, n int) []table.Line {
	own, _ := taps.Apportion(l)
	lines := make([]table.Line, n)
	for i := range lines {
		lines[i] = table.Line{First: int64(i - (len(l)-1)/2), Taps: own}
	}
	return lines
}

func tellResized(f raw.Filter, n, m int) []table.Line {
	lines := make([]table.Line, m)
	for i := range lines {
		first, l := raw.Row(f, int64(n), int64(m), int64(i))
		own, _ := taps.Apportion(l)
		lines[i] = table.Line{First: first, Taps: own}
	}
	return lines
}

// checkTable: is it just these lines, from so many?
func checkTable(t *testing.T, x *table.Table, n int, lines []table.Line) {
	t.Helper()
	if x == nil || x.From() != n || x.To() != len(lines) {
		t.Fatalf("from %d to %d: another table", n, len(lines))
	}
	most, size := 0, int64(0)
	for i, want := range lines {
		if got := x.Line(i); got.First != want.First || !slices.Equal(got.Taps, want.Taps) {
			t.Fatalf("from %d to %d, line %d: %d, not %d", n, len(lines), i, got, want)
		}
		most, size = max(most, len(want.Taps)), max(size, taps.Size(want.Taps))
	}
	if x.Most() != most || x.Size() != size {
		t.Fatalf("from %d to %d: Most %d, not %d; Size %d, not %d", n, len(lines), x.Most(), most, x.Size(), size)
	}
}

// checkStage: is it the operation's, for such an image?
func checkStage(t *testing.T, s Stage, o Op, width, height int) {
	t.Helper()
	checkTable(t, s.X, width, tellLines(o, width, true))
	checkTable(t, s.Y, height, tellLines(o, height, false))
	if s.Border != o.Border {
		t.Fatalf("%v: border %d", o, s.Border)
	}
}

// checkMake: has it just this code, and the stage that belongs to it?
func checkMake(t *testing.T, o Op, width, height int, want api.Code) {
	t.Helper()
	s, e := Make(o, width, height)
	if e != want {
		t.Fatalf("%v, of %d by %d: %d, not %d", o, width, height, e, want)
	}
	if e != api.OK {
		if s != (Stage{}) {
			t.Fatalf("%v, of %d by %d: a stage beside %d", o, width, height, e)
		}
		return
	}
	checkStage(t, s, o, width, height)
}

// each: all lines from n to n with these taps, the middle one each output's own.
func each(n int, own ...int64) []table.Line {
	lines := make([]table.Line, n)
	for i := range lines {
		lines[i] = table.Line{First: int64(i - (len(own)-1)/2), Taps: own}
	}
	return lines
}

func line(first int64, own ...int64) table.Line { return table.Line{First: first, Taps: own} }

// P12.1: of each kind the tables' lines, written out, of an image of 4 by 3.
func TestMakeLines(t *testing.T) {
	for _, c := range []struct {
		o    Op
		x, y []table.Line
	}{
		{gauss(1 << 16), each(4, 73, 885, 3965, 6538, 3965, 885, 73), each(3, 73, 885, 3965, 6538, 3965, 885, 73)},
		{gauss(1 << 15), each(4, 5, 1744, 12887, 1744, 4), each(3, 5, 1744, 12887, 1744, 4)},
		{gauss(21845), each(4, 178, 16028, 178), each(3, 178, 16028, 178)},
		{gauss(21846), each(4, 0, 178, 16028, 178, 0), each(3, 0, 178, 16028, 178, 0)},
		{gauss(1), each(4, 0, 16384, 0), each(3, 0, 16384, 0)},
		{blur(0), each(4, 16384), each(3, 16384)},
		{blur(1), each(4, 5462, 5461, 5461), each(3, 5462, 5461, 5461)},
		{blur(2), each(4, 3277, 3277, 3277, 3277, 3276), each(3, 3277, 3277, 3277, 3277, 3276)},
		// X along rows, Y along columns, neither turned about.
		{kernel([]int64{1, 2, 1}, []int64{7}), each(4, 4096, 8192, 4096), each(3, 16384)},
		{kernel([]int64{7}, []int64{1, 2, 1}), each(4, 16384), each(3, 4096, 8192, 4096)},
		{kernel([]int64{-1, 0, 9}, []int64{2, 1, 1, 0, 0}), each(4, -2048, 0, 18432), each(3, 8192, 4096, 4096, 0, 0)},
		{kernel([]int64{5, -3, 0}, []int64{0, 0, 3}), each(4, 40960, -24576, 0), each(3, 0, 0, 16384)},
		// W along rows, H along columns; greater and less.
		{resizeTo(2, 1), []table.Line{line(0, 8192, 8192), line(2, 8192, 8192)}, []table.Line{line(0, 5462, 5461, 5461)}},
		{resizeTo(6, 4), []table.Line{line(0, 16384), line(0, 8192, 8192), line(1, 16384), line(2, 16384), line(2, 8192, 8192), line(3, 16384)}, []table.Line{line(0, 16384), line(0, 5461, 10923), line(1, 10923, 5461), line(2, 16384)}},
		{by(raw.Cubic, resizeTo(2, 1)), []table.Line{line(-3, -192, -576, 1856, 7104, 7104, 1856, -576, -192), line(-1, -192, -576, 1856, 7104, 7104, 1856, -576, -192)}, []table.Line{line(-4, -202, -404, 0, 1820, 4248, 5461, 4248, 1820, 0, -405, -202)}},
		{by(raw.Lanczos, resizeTo(4, 2)), []table.Line{line(-2, 0, 0, 16384, 0, 0), line(-1, 0, 0, 16384, 0, 0), line(0, 0, 0, 16384, 0, 0), line(1, 0, 0, 16384, 0, 0)}, []table.Line{line(-4, 36, 272, -1480, 1837, 10408, 6660, -1149, -466, 266), line(-2, 266, -466, -1149, 6660, 10408, 1837, -1480, 272, 36)}},
	} {
		for b := range 3 {
			s, e := Make(with(b, c.o), 4, 3)
			if e != api.OK {
				t.Fatalf("%v: %d", c.o, e)
			}
			checkTable(t, s.X, 4, c.x)
			checkTable(t, s.Y, 3, c.y)
			if s.Border != border.Policy(b) {
				t.Errorf("%v: border %d, not %d", c.o, s.Border, b)
			}
		}
	}
}

// P12.1: the chapter's example.
func TestExample(t *testing.T) {
	s, e := Make(resizeTo(2, 1), 4, 3)
	if e != api.OK || s.X.From() != 4 || s.X.To() != 2 || s.Y.From() != 3 || s.Y.To() != 1 {
		t.Error(s, e)
	}
}

// P12.1: each kind by its number, and those that there aren't.
func TestKinds(t *testing.T) {
	if Gauss != 0 || Blur != 1 || Kernel != 2 || Resize != 3 {
		t.Error("numbers of kinds")
	}
	all := Op{Sigma: 1 << 16, Radius: 3, X: []int64{1, 2, 1}, Y: []int64{1}, Filter: raw.Cubic, W: 5, H: 6}
	for k := range 4 {
		all.Kind = Kind(k)
		checkMake(t, all, 7, 8, api.OK)
	}
	for _, k := range beside(4) {
		all.Kind = Kind(k)
		checkMake(t, all, 7, 8, api.BadOp)
		checkMake(t, all, 1, 1, api.BadOp)
		checkMake(t, Op{Kind: Kind(k)}, 7, 8, api.BadOp)
	}
}

// P12.1: names.
func TestName(t *testing.T) {
	for k, want := range []string{"gauss", "blur", "kernel", "resize"} {
		if got := Name(Kind(k)); got != want {
			t.Errorf("%d: %q", k, got)
		}
	}
	for _, k := range append(beside(4), 5, 7, 8, 255, 256, 1<<32+3, -3, -4) {
		if got := Name(Kind(k)); got != "" {
			t.Errorf("%d: %q", k, got)
		}
	}
}

// P12.1: borders beside those that there are, of each kind.
func TestBorders(t *testing.T) {
	for _, o := range four() {
		for b := range 3 {
			checkMake(t, with(b, o), 5, 4, api.OK)
		}
		for _, b := range beside(3) {
			checkMake(t, with(b, o), 5, 4, api.BadOp)
		}
	}
}

// P12.1: filters, and those beside them.
func TestFilters(t *testing.T) {
	for f := range 3 {
		for _, c := range [][4]int{{4, 3, 2, 1}, {1, 1, 1, 1}, {5, 4, 11, 7}, {4, 9, 9, 4}, {1, 7, 7, 1}, {100, 33, 64, 99}} {
			checkMake(t, by(raw.Filter(f), resizeTo(c[2], c[3])), c[0], c[1], api.OK)
		}
	}
	for _, f := range beside(3) {
		checkMake(t, by(raw.Filter(f), resizeTo(2, 1)), 4, 3, api.BadOp)
		checkMake(t, by(raw.Filter(f), resizeTo(4, 3)), 4, 3, api.BadOp)
		checkMake(t, by(raw.Filter(f), resizeTo(1, 1)), 1, 1, api.BadOp)
	}
}

// P12.1: sizes at the ends and beyond, of each kind.
func TestSizes(t *testing.T) {
	for _, o := range four() {
		for _, c := range [][2]int{{1, 1}, {1, 4}, {5, 1}, {2, 3}, {side, 1}, {1, side}, {side - 1, 2}, {side, side}} {
			checkMake(t, o, c[0], c[1], api.OK)
		}
		for _, n := range notSides {
			for _, other := range []int{1, 4, side, 0, n} {
				checkMake(t, o, n, other, api.BadOp)
				checkMake(t, o, other, n, api.BadOp)
			}
		}
	}
}

// P12.1: a Resize's W and H at the ends and beyond.
func TestResizeSizes(t *testing.T) {
	for f := range 3 {
		o := by(raw.Filter(f), with(f, Op{Kind: Resize}))
		for _, c := range [][2]int{{1, 1}, {1, 4}, {5, 1}, {side, 1}, {1, side}, {side - 1, 2}} {
			o.W, o.H = c[0], c[1]
			checkMake(t, o, 5, 4, api.OK)
		}
		for _, n := range notSides {
			for _, other := range []int{1, 4, side, 0, n} {
				o.W, o.H = n, other
				checkMake(t, o, 5, 4, api.BadOp)
				o.W, o.H = other, n
				checkMake(t, o, 5, 4, api.BadOp)
			}
		}
	}
	checkMake(t, resizeTo(side, side), side, side, api.OK)
}

// P12.1: sigmas that may be, and those that may not.
func TestSigmas(t *testing.T) {
	for _, sigma := range []int64{1, 2, 21845, 21846, 32768, 43690, 43691, 65535, 65536, 65537, 100000, 1 << 20, topSigma - 1, topSigma} {
		checkMake(t, gauss(sigma), 5, 4, api.OK)
	}
	for _, sigma := range []int64{0, -1, -2, -65536, -topSigma, topSigma + 1, topSigma + 2, 2 * topSigma, 1 << 32, 1<<32 + 65536, 1 << 62, math.MinInt64, math.MinInt64 + 1, math.MaxInt64 - 1, math.MaxInt64} {
		checkMake(t, gauss(sigma), 5, 4, api.BadKernel)
	}
}

// P12.1: all radii that may be, and those that may not.
func TestRadii(t *testing.T) {
	for radius := range 512 {
		checkMake(t, blur(radius), 3, 2, api.OK)
	}
	for _, radius := range append(beside(512), 1023, 1024, -511, -512) {
		checkMake(t, blur(radius), 3, 2, api.BadKernel)
	}
}

// mayWeigh: weights that may be.
func mayWeigh() [][]int64 {
	return [][]int64{
		{1}, {7}, {topSize}, {1, 2, 1}, {0, 1, 0}, {0, 0, 1}, {1, 0, 0}, {-1, 9, -1}, {1, 1, 1, 1, 1}, same(1, topCount), same(1025, topCount), {topSize - 2, 1, 1}, {topSize, 0, 0}, {5, -3, 0},
		// The least sum that may be.
		{655360, -393216, 0}, {-393216, 0, 655360},
	}
}

// mayNot: weights that may not be, whatever else.
func mayNot() [][]int64 {
	return [][]int64{
		nil, {}, {1, 1}, {1, 2, 2, 1}, {topSize / 2, topSize / 2}, {1, -1}, {0, 0}, same(1, 1022), same(1, topCount+1), same(1, 1025), same(0, topCount+1), same(0, 1025), same(0, 2049), append(same(0, 1024), 1), same(-1, 1025),
		{0}, {0, 0, 0}, same(0, topCount),
		{topSize + 1}, {-topSize - 1}, {topSize, 1, 0}, {topSize, -1, 0}, {topSize / 2, 1, topSize / 2}, {topSize, -topSize, 1}, same(1026, topCount), {1 << 32, 0, 0}, {math.MaxInt64}, {math.MinInt64}, {math.MaxInt64, math.MinInt64, 1}, {math.MaxInt64, math.MaxInt64, 1}, {math.MinInt64, math.MinInt64, 1},
	}
}

// tooLittle: weights that may be, but that come to too little.
func tooLittle() [][]int64 {
	return [][]int64{{1, -1, 0}, {1, 0, -1}, {-1}, {-topSize}, {-1, 3, -1}, {1, -2, 1}, {4, -3, 0}, {0, 655359, -393217}, {-1, -1, -1}, same(-1, topCount), {topSize / 2, 0, -topSize / 2}, {5, 0, -4}}
}

// P12.1: each X with each Y, of all these.
func TestKernels(t *testing.T) {
	for _, x := range mayWeigh() {
		for _, y := range mayWeigh() {
			checkMake(t, kernel(x, y), 5, 4, api.OK)
		}
		for _, l := range mayNot() {
			checkMake(t, kernel(x, l), 5, 4, api.BadKernel)
			checkMake(t, kernel(l, x), 5, 4, api.BadKernel)
		}
		// Along columns alone, along rows alone.
		for _, l := range tooLittle() {
			checkMake(t, kernel(x, l), 5, 4, api.Degenerate)
			checkMake(t, kernel(l, x), 5, 4, api.Degenerate)
		}
	}
	for _, x := range tooLittle() {
		for _, y := range tooLittle() {
			checkMake(t, kernel(x, y), 5, 4, api.Degenerate)
		}
		for _, l := range mayNot() {
			checkMake(t, kernel(x, l), 5, 4, api.BadKernel)
			checkMake(t, kernel(l, x), 5, 4, api.BadKernel)
		}
	}
	for _, x := range mayNot() {
		for _, y := range mayNot() {
			checkMake(t, kernel(x, y), 5, 4, api.BadKernel)
		}
	}
}

// P12.1: what another kind asks for isn't looked at.
func TestUnasked(t *testing.T) {
	lists := slices.Concat(mayWeigh()[:3], mayNot(), tooLittle())
	for _, o := range four() {
		for _, n := range notSides {
			for _, x := range lists {
				p := Op{Kind: o.Kind, Border: border.Wrap, Sigma: -1, Radius: 512, X: x, Y: x, Filter: -1, W: n, H: n}
				switch o.Kind {
				case Gauss:
					p.Sigma = o.Sigma
				case Blur:
					p.Radius = o.Radius
				case Kernel:
					p.X, p.Y = o.X, o.Y
				case Resize:
					p.Filter, p.W, p.H = o.Filter, o.W, o.H
				}
				checkMake(t, p, 3, 2, api.OK)
			}
		}
	}
	for _, sigma := range []int64{0, topSigma + 1, math.MinInt64, math.MaxInt64} {
		for _, radius := range beside(512) {
			for _, o := range four() {
				if o.Kind != Gauss {
					o.Sigma = sigma
				}
				if o.Kind != Blur {
					o.Radius = radius
				}
				checkMake(t, o, 3, 2, api.OK)
			}
		}
	}
}

// P12.1: of two faults BadOp ahead of BadKernel, that ahead of Degenerate.
func TestTwoFaults(t *testing.T) {
	bad, little := []int64{1, 1}, []int64{1, -1, 0}
	for _, o := range []Op{gauss(0), gauss(topSigma + 1), blur(-1), blur(512), kernel(bad, bad), kernel(bad, little), kernel(little, bad), kernel(nil, nil)} {
		checkMake(t, o, 5, 4, api.BadKernel)
		checkBadOp(t, o)
	}
	for _, o := range []Op{kernel(little, little), kernel([]int64{1}, little), kernel(little, []int64{1})} {
		checkMake(t, o, 5, 4, api.Degenerate)
		checkBadOp(t, o)
	}
	checkMake(t, kernel([]int64{1}, bad), 5, 4, api.BadKernel)
	checkMake(t, by(3, resizeTo(0, 1)), 5, 0, api.BadOp)
}

// checkBadOp: with a border or a size that may not be, or of another kind, an operation is BadOp.
func checkBadOp(t *testing.T, o Op) {
	t.Helper()
	for _, b := range beside(3) {
		checkMake(t, with(b, o), 5, 4, api.BadOp)
	}
	for _, n := range notSides {
		checkMake(t, o, n, 4, api.BadOp)
		checkMake(t, o, 5, n, api.BadOp)
		checkMake(t, o, n, n, api.BadOp)
	}
	for _, k := range beside(4) {
		o.Kind = Kind(k)
		checkMake(t, o, 5, 4, api.BadOp)
	}
}

// tellCode: the first fault by the chapter's words.
func tellCode(o Op, width, height int) api.Code {
	isSide := func(n int) bool { return n > 0 && n < 65537 }
	if o.Kind < 0 || o.Kind > 3 || o.Border < 0 || o.Border > 2 || !isSide(width) || !isSide(height) {
		return api.BadOp
	}
	switch o.Kind {
	case Gauss:
		if o.Sigma < 1 || o.Sigma > topSigma {
			return api.BadKernel
		}
	case Blur:
		if o.Radius < 0 || o.Radius > 511 {
			return api.BadKernel
		}
	case Kernel:
		return tellKernel(o.X, o.Y)
	case Resize:
		if !isSide(o.W) || !isSide(o.H) || o.Filter < 0 || o.Filter > 2 {
			return api.BadOp
		}
	}
	return api.OK
}

func tellKernel(x, y []int64) api.Code {
	a, b := tellWeights(x), tellWeights(y)
	if a == api.BadKernel || b == api.BadKernel {
		return api.BadKernel
	}
	return max(a, b)
}

// tellWeights: of one way's weights, none of them beyond 2^40 without sign.
func tellWeights(l []int64) api.Code {
	size, sum := int64(0), int64(0)
	for _, w := range l {
		size += max(w, -w)
	}
	if len(l)%2 == 0 || len(l) > 1024 || size == 0 || size > topSize {
		return api.BadKernel
	}
	for _, w := range l {
		sum += int64(math.Floor(float64(w<<31+size) / float64(2*size)))
	}
	if sum < 1<<28 {
		return api.Degenerate
	}
	return api.OK
}

// some: lists, by which there is one of each fault and one of none.
func some() [][]int64 { return [][]int64{{3, 4, 5}, {1, -2, 1}, {1, 1}, nil} }

// P12.1: what may be and what may not, each with each.
func TestEach(t *testing.T) {
	count := map[api.Code]int{}
	check := func(o Op) {
		for _, width := range []int{5, 0} {
			for _, height := range []int{4, side + 1} {
				want := tellCode(o, width, height)
				count[want]++
				checkMake(t, o, width, height, want)
			}
		}
	}
	for k := range 6 {
		for b := range 5 {
			for place := range 64 {
				o := Op{Kind: Kind(k - 1), Border: border.Policy(b - 1), Sigma: 40000, Radius: 2, Filter: raw.Lanczos, W: 3, H: 2}
				o.X, o.Y = some()[place%4], some()[place/4%4]
				if place/16%2 == 1 {
					o.Sigma, o.W = 0, 0
				}
				if place/32 == 1 {
					o.Radius, o.H, o.Filter = -1, side+1, 3
				}
				check(o)
			}
		}
	}
	for _, e := range []api.Code{api.OK, api.BadOp, api.BadKernel, api.Degenerate} {
		if count[e] < 36 {
			t.Errorf("code %d: %d", e, count[e])
		}
	}
}

// P12.1: kernels of all kinds, about those that come to too little.
func TestSomeKernels(t *testing.T) {
	r := rand.New(rand.NewSource(12))
	count := map[api.Code]int{}
	list := func() []int64 {
		l := make([]int64, 1+r.Intn(6))
		for i := range l {
			l[i] = r.Int63n(1<<r.Intn(21)) - r.Int63n(1<<r.Intn(21))*3/5
		}
		return l
	}
	for range 20000 {
		o := kernel(list(), list())
		want := tellCode(o, 2, 3)
		count[want]++
		checkMake(t, o, 2, 3, want)
	}
	for _, e := range []api.Code{api.OK, api.BadKernel, api.Degenerate} {
		if count[e] < 500 {
			t.Errorf("code %d: %d", e, count[e])
		}
	}
}

// P12.1: a Resize's own W and H, whatever they are; of all others the size as it was, whatever it is.
func TestSize(t *testing.T) {
	numbers := append(notSides, 1, 2, 3, 9, side-1, side)
	for _, a := range numbers {
		for _, b := range numbers {
			if w, h := Size(resizeTo(a, b), 5, 4); w != a || h != b {
				t.Errorf("%d by %d: %d by %d", a, b, w, h)
			}
			if w, h := Size(resizeTo(5, 4), a, b); w != 5 || h != 4 {
				t.Errorf("of %d by %d: %d by %d", a, b, w, h)
			}
			for _, k := range append(beside(4), 0, 1, 2) {
				if w, h := Size(Op{Kind: Kind(k), W: 7, H: 6}, a, b); w != a || h != b {
					t.Errorf("%d, of %d by %d: %d by %d", k, a, b, w, h)
				}
			}
		}
	}
	// No filter or border is asked for.
	o := by(-1, with(3, resizeTo(8, 9)))
	if w, h := Size(o, 5, 4); w != 8 || h != 9 {
		t.Error(w, h)
	}
}

// checkAll: has it just this code, and the stages that belong to it?
func checkAll(t *testing.T, l []Op, width, height, channels int, want api.Code) {
	t.Helper()
	s, e := All(l, width, height, channels)
	if e != want {
		t.Fatalf("%v, of %d by %d, %d: %d, not %d", l, width, height, channels, e, want)
	}
	if e != api.OK {
		if len(s) != 0 {
			t.Fatalf("%v: %d stages beside %d", l, len(s), e)
		}
		return
	}
	if len(s) != len(l) {
		t.Fatalf("%v: %d stages", l, len(s))
	}
	for i, o := range l {
		checkStage(t, s[i], o, width, height)
		if o.Kind == Resize {
			width, height = o.W, o.H
		}
	}
}

// P12.2: stages' sizes, written out: from, and to.
func TestAllSizes(t *testing.T) {
	b, up, down := blur(1), resizeTo(9, 7), resizeTo(2, 1)
	for _, c := range []struct {
		l    []Op
		want [][4]int // along rows from and to, along columns from and to
	}{
		{nil, nil}, {[]Op{}, nil},
		{[]Op{b}, [][4]int{{5, 5, 4, 4}}}, {[]Op{up}, [][4]int{{5, 9, 4, 7}}},
		// Resizes ahead, in the midst, at the end, one behind the other.
		{[]Op{up, b, b}, [][4]int{{5, 9, 4, 7}, {9, 9, 7, 7}, {9, 9, 7, 7}}},
		{[]Op{b, down, b}, [][4]int{{5, 5, 4, 4}, {5, 2, 4, 1}, {2, 2, 1, 1}}},
		{[]Op{b, b, up}, [][4]int{{5, 5, 4, 4}, {5, 5, 4, 4}, {5, 9, 4, 7}}},
		{[]Op{up, down, b}, [][4]int{{5, 9, 4, 7}, {9, 2, 7, 1}, {2, 2, 1, 1}}},
		{[]Op{b, down, b, up, b, up}, [][4]int{{5, 5, 4, 4}, {5, 2, 4, 1}, {2, 2, 1, 1}, {2, 9, 1, 7}, {9, 9, 7, 7}, {9, 9, 7, 7}}},
	} {
		for _, channels := range []int{1, 3} {
			s, e := All(c.l, 5, 4, channels)
			if e != api.OK || len(s) != len(c.want) {
				t.Fatalf("%v: %d stages, %d", c.l, len(s), e)
			}
			for i, x := range s {
				if got := [4]int{x.X.From(), x.X.To(), x.Y.From(), x.Y.To()}; got != c.want[i] {
					t.Errorf("%v, stage %d: %d, not %d", c.l, i, got, c.want[i])
				}
			}
			checkAll(t, c.l, 5, 4, channels, api.OK)
		}
	}
}

// P12.2: operations of all kinds, borders and filters; up to 16 of them.
func TestAll(t *testing.T) {
	var l []Op
	for i := range 17 {
		checkAll(t, l, 6, 5, 1, api.OK)
		checkAll(t, l, 6, 5, 3, api.OK)
		o := four()[i*3%4]
		o.Border, o.Filter = border.Policy(i%3), raw.Filter(i/2%3)
		o.W, o.H = 3+i, 12-i/2
		l = append(l, o)
	}
	checkAll(t, l[1:], 6, 5, 1, api.OK)
	checkAll(t, l, 6, 5, 1, api.BadOp)
	for _, o := range four() {
		checkAll(t, slices.Repeat([]Op{o}, 16), 5, 4, 3, api.OK)
		checkAll(t, slices.Repeat([]Op{o}, 17), 5, 4, 3, api.BadOp)
		checkAll(t, slices.Repeat([]Op{o}, 18), 5, 4, 3, api.BadOp)
		checkAll(t, slices.Repeat([]Op{o}, 1000), 5, 4, 3, api.BadOp)
	}
}

// P12.2: sizes and channels that fit, and those that don't, of no operations and of some.
func TestAllFit(t *testing.T) {
	for _, l := range [][]Op{nil, {}, {resizeTo(1, 1)}, {resizeTo(2, 3), blur(1)}} {
		for _, c := range [][3]int{{1, 1, 1}, {1, 1, 3}, {side, 1, 1}, {1, side, 3}, {side, 4096, 1}, {4096, side, 1}, {16384, 16384, 1}, {side, 1365, 3}, {1365, side, 3}, {16384, 5461, 3}} {
			checkAll(t, l, c[0], c[1], c[2], api.OK)
		}
		for _, n := range notSides {
			for _, channels := range []int{1, 3} {
				checkAll(t, l, n, 4, channels, api.TooLarge)
				checkAll(t, l, 5, n, channels, api.TooLarge)
				checkAll(t, l, n, n, channels, api.TooLarge)
			}
		}
		for _, channels := range []int{0, 2, 4, -1, -3, least, greatest, 1 << 32, 1<<32 + 1, 1<<32 + 3} {
			checkAll(t, l, 5, 4, channels, api.TooLarge)
			checkAll(t, l, 1, 1, channels, api.TooLarge)
		}
		// One row or column too many.
		for _, c := range [][3]int{{side, 4097, 1}, {4097, side, 1}, {16384, 16385, 1}, {16385, 16384, 1}, {side, 1366, 3}, {1366, side, 3}, {16384, 5462, 3}, {5462, 16384, 3}, {side, side, 1}, {16384, 16384, 3}} {
			checkAll(t, l, c[0], c[1], c[2], api.TooLarge)
		}
	}
}

// P12.2: what an operation leads to, which fits or doesn't.
func TestAllLeads(t *testing.T) {
	for _, ahead := range [][]Op{nil, {blur(0)}, {resizeTo(3, 3), gauss(9)}} {
		lead := func(w, h, channels int, want api.Code) {
			t.Helper()
			l := append(slices.Clone(ahead), resizeTo(w, h))
			checkAll(t, l, 5, 4, channels, want)
			// What comes behind doesn't mend it, be it whatever.
			if want != api.OK {
				checkAll(t, append(l, resizeTo(1, 1)), 5, 4, channels, want)
				checkAll(t, append(l, Op{Kind: -1}), 5, 4, channels, want)
				checkAll(t, append(l, blur(-1)), 5, 4, channels, want)
				checkAll(t, append(l, kernel([]int64{-1}, []int64{-1})), 5, 4, channels, want)
			}
		}
		lead(16384, 16384, 1, api.OK)
		lead(16384, 16385, 1, api.TooLarge)
		lead(16385, 16384, 1, api.TooLarge)
		lead(side, 4096, 1, api.OK)
		lead(side, 4097, 1, api.TooLarge)
		lead(16384, 5461, 3, api.OK)
		lead(16384, 5462, 3, api.TooLarge)
		lead(16384, 5462, 1, api.OK)
		lead(1365, side, 3, api.OK)
		lead(1366, side, 3, api.TooLarge)
		lead(side, side, 1, api.TooLarge)
	}
}

// P12.2: an operation's code behind operations that may be; and the first one's of two.
func TestAllCodes(t *testing.T) {
	codes := map[api.Code][]Op{
		api.BadOp:      {{Kind: 4}, {Kind: -1}, with(3, blur(1)), with(-1, gauss(9)), resizeTo(0, 4), resizeTo(5, side+1), by(3, resizeTo(5, 4)), by(-1, resizeTo(5, 4))},
		api.BadKernel:  {gauss(0), blur(512), kernel([]int64{1}, nil), kernel([]int64{1, 1}, []int64{1})},
		api.Degenerate: {kernel([]int64{1, -1, 0}, []int64{1}), kernel([]int64{1}, []int64{-1})},
	}
	for want, bad := range codes {
		for _, o := range bad {
			for count := range 16 {
				l := append(slices.Repeat([]Op{blur(1), resizeTo(7, 2)}, 8)[:count], o)
				checkAll(t, l, 5, 4, 1, want)
				checkAll(t, append(l, blur(1)), 5, 4, 3, []api.Code{want, api.BadOp}[count/15])
			}
			for _, others := range codes {
				for _, p := range others {
					checkAll(t, []Op{o, p}, 5, 4, 1, want)
					checkAll(t, []Op{blur(1), o, p}, 5, 4, 1, want)
				}
			}
		}
	}
}

// P12.2: of two faults.
func TestAllTwoFaults(t *testing.T) {
	// More than there may be ahead of sizes, of operations, and of what they lead to.
	for _, o := range []Op{{}, blur(1), gauss(0), kernel([]int64{1}, []int64{-1}), resizeTo(side, side), {Kind: 9}} {
		l := slices.Repeat([]Op{o}, 17)
		for _, c := range [][3]int{{5, 4, 1}, {0, 4, 1}, {5, side + 1, 1}, {5, 4, 2}, {side, side, 3}} {
			checkAll(t, l, c[0], c[1], c[2], api.BadOp)
		}
	}
	// Sizes that don't fit ahead of an operation's code.
	for _, o := range []Op{gauss(0), blur(-1), kernel(nil, nil), kernel([]int64{1}, []int64{-1}), resizeTo(0, 0), {Kind: 9}, with(3, blur(1))} {
		for _, c := range [][3]int{{0, 4, 1}, {5, side + 1, 1}, {5, 4, 2}, {5, 4, 0}, {16384, 16385, 1}, {side, 1366, 3}, {greatest, greatest, 1}} {
			checkAll(t, []Op{o}, c[0], c[1], c[2], api.TooLarge)
			checkAll(t, []Op{blur(1), o}, c[0], c[1], c[2], api.TooLarge)
		}
	}
	// An operation's code ahead of what it leads to; a size that is no side's is the operation's own fault.
	for _, o := range []Op{with(3, resizeTo(side, side)), by(3, resizeTo(side, side)), resizeTo(side+1, 1), resizeTo(1, side+1), resizeTo(0, side), resizeTo(greatest, greatest)} {
		checkAll(t, []Op{o}, 5, 4, 1, api.BadOp)
		checkAll(t, []Op{gauss(5), o}, 5, 4, 3, api.BadOp)
	}
}

// tellAll: the first fault by the chapter's words.
func tellAll(l []Op, width, height, channels int) api.Code {
	fits := func() bool {
		return width > 0 && width <= side && height > 0 && height <= side && (channels == 1 || channels == 3) && width*height*channels <= 1<<28
	}
	if len(l) > 16 {
		return api.BadOp
	}
	if !fits() {
		return api.TooLarge
	}
	for _, o := range l {
		if e := tellCode(o, width, height); e != api.OK {
			return e
		}
		if o.Kind == Resize {
			width, height = o.W, o.H
		}
		if !fits() {
			return api.TooLarge
		}
	}
	return api.OK
}

// P12.2: rows of operations that may be, here and there one that may not.
func TestSomeRows(t *testing.T) {
	r := rand.New(rand.NewSource(21))
	odd := []Op{gauss(0), blur(512), kernel([]int64{1, 1}, []int64{1}), kernel([]int64{1}, []int64{1, -1, 0}), {Kind: 4}, with(3, blur(1)), resizeTo(0, 1), by(3, resizeTo(2, 2)), resizeTo(16384, 16385), resizeTo(16384, 5462)}
	count := map[api.Code]int{}
	for range 3000 {
		l := make([]Op, r.Intn(18))
		for i := range l {
			l[i] = with(r.Intn(3), by(raw.Filter(r.Intn(3)), four()[r.Intn(4)]))
			l[i].W, l[i].H = 1+r.Intn(20), 1+r.Intn(20)
			if r.Intn(20) == 0 {
				l[i] = odd[r.Intn(len(odd))]
			}
		}
		width, height, channels := r.Intn(20), 1+r.Intn(20), 1+2*r.Intn(2)
		want := tellAll(l, width, height, channels)
		count[want]++
		checkAll(t, l, width, height, channels, want)
	}
	for _, e := range []api.Code{api.OK, api.TooLarge, api.BadOp, api.BadKernel, api.Degenerate} {
		if count[e] < 50 {
			t.Errorf("code %d: %d", e, count[e])
		}
	}
}

// roomy: a copy of a list, ahead of spare room that isn't nought.
func roomy(l []int64) []int64 {
	if l == nil {
		return nil
	}
	return append(slices.Clone(l), -11, -12, -13)[:len(l)]
}

// apart: operations of which no list is another's, all with spare room.
func apart(l []Op) []Op {
	own := append(slices.Clone(l), Op{Kind: 7, W: -1}, Op{Kind: -7, H: -1})
	for i := range l {
		own[i].X, own[i].Y = roomy(l[i].X), roomy(l[i].Y)
	}
	return own[:len(l)]
}

// whole: a list with its spare room, and each operation's lists with theirs.
func whole(l []Op) []Op {
	l = slices.Clone(l[:cap(l)])
	for i := range l {
		l[i].X, l[i].Y = slices.Clone(l[i].X[:cap(l[i].X)]), slices.Clone(l[i].Y[:cap(l[i].Y)])
	}
	return l
}

// overwrite: operations and their weights, spare room and all.
func overwrite(l []Op) {
	l = l[:cap(l)]
	for i, o := range l {
		for _, w := range [][]int64{o.X[:cap(o.X)], o.Y[:cap(o.Y)]} {
			for k := range w {
				w[k] = -99
			}
		}
		l[i] = Op{Kind: 99, Border: 98, Sigma: -97, Radius: -96, X: []int64{-95}, Filter: 94, W: -93, H: -92}
	}
}

// rows: operations that may be, and some that may not.
func rows() [][]Op {
	k := kernel([]int64{3, -1, 4, 1, 5}, []int64{9, 2, 6})
	one := []int64{1, 2, 4}
	return [][]Op{
		four(), {k}, {k, k, k}, {blur(1), k, resizeTo(3, 9), k}, {kernel(one, one)}, {k, gauss(77777), kernel([]int64{1}, []int64{2})},
		// With codes.
		{k, kernel([]int64{1, -1, 0}, []int64{1, 2, 1})}, {k, kernel([]int64{1, 2, 1}, []int64{-1})}, {k, kernel([]int64{1, 1}, nil)}, {k, {Kind: 4, X: []int64{5}}}, {k, resizeTo(side, side), k}, slices.Repeat([]Op{k}, 17),
	}
}

// P12.3: operations and their weights stay as they were, and aren't kept.
func TestStays(t *testing.T) {
	for _, l := range rows() {
		own := apart(l)
		before := whole(own)
		s, e := All(own, 5, 4, 1)
		var made []Stage
		for _, o := range own {
			x, _ := Make(o, 5, 4)
			made = append(made, x)
			Size(o, 5, 4)
		}
		if !reflect.DeepEqual(whole(own), before) {
			t.Fatalf("what was handed in: %v, not %v", whole(own), before)
		}
		overwrite(own)
		over := whole(own)
		for i, o := range l {
			if made[i] != (Stage{}) {
				checkStage(t, made[i], o, 5, 4)
			}
		}
		width, height := 5, 4
		for i := range s {
			checkStage(t, s[i], l[i], width, height)
			width, height = Size(l[i], width, height)
		}
		if e != tellAll(l, 5, 4, 1) || !reflect.DeepEqual(whole(own), over) {
			t.Errorf("%v: %d, and %v", l, e, over)
		}
	}
	// One list, handed in twice.
	one := []int64{1, 2, 4}
	s, _ := Make(kernel(one, one), 5, 4)
	clear(one)
	checkStage(t, s, kernel([]int64{1, 2, 4}, []int64{1, 2, 4}), 5, 4)
}

// spoil: all that a stage tells, spare room and all.
func spoil(s Stage) {
	for _, x := range []*table.Table{s.X, s.Y} {
		for i := range x.To() {
			own := x.Line(i).Taps
			for k := range own[:cap(own)] {
				own[:cap(own)][k] = -88
			}
		}
	}
}

// P12.3: answers are new memory: neither operations nor other answers show it when one is written over.
func TestApart(t *testing.T) {
	for _, l := range rows() {
		own := apart(l)
		before := whole(own)
		s, e := All(own, 5, 4, 3)
		again, _ := All(own, 5, 4, 3)
		if e != api.OK {
			continue
		}
		for i := range s {
			if x := again[i]; s[i].X == s[i].Y || s[i].X == x.X || s[i].Y == x.Y || i > 0 && (s[i].X == s[i-1].X || s[i].Y == s[i-1].Y) {
				t.Errorf("%v, stage %d: one table, twice", l, i)
			}
			spoil(s[i])
		}
		for i := range s[:cap(s)] {
			s[:cap(s)][i] = Stage{Border: 77}
		}
		width, height := 5, 4
		for i, o := range l {
			checkStage(t, again[i], o, width, height)
			width, height = Size(o, width, height)
			x, _ := Make(own[i], 4, 4)
			spoil(x)
			x, _ = Make(own[i], 4, 4)
			checkStage(t, x, o, 4, 4)
		}
		if !reflect.DeepEqual(whole(own), before) {
			t.Errorf("operations are the answer: %v, not %v", whole(own), before)
		}
	}
}
