package direct

import (
	"fmt"
	"math"
	"math/big"
	"math/rand"
	"slices"
	"testing"

	"smalto/api"
	"smalto/border"
	"smalto/op"
	"smalto/raster"
	"smalto/raw"
	"smalto/table"
)

const (
	least    = math.MinInt
	greatest = math.MaxInt
	one      = 1 << 28 // a sum of one
	half     = 1 << 27
	side     = 1 << 16 // the greatest side
	topSize  = 1 << 23 // the greatest Size of taps whose sums are within 2^62
)

var borders = []border.Policy{border.Clamp, border.Mirror, border.Wrap}

var notBorders = []border.Policy{-1, 3, least, greatest, -2, 4, 1 << 32, 1<<32 + 1, -1 << 32, least + 1, greatest - 1}

// beside: numbers that are none of those from 0 up to count.
func beside(count int) []int {
	return []int{-1, count, least, greatest, -2, count + 1, -count - 1, 1 << 32, count + 1<<32, -1 << 32, -1<<32 + 1, 1 << 62, least + 1, greatest - 1}
}

func gauss(sigma int64) op.Op               { return op.Op{Kind: op.Gauss, Sigma: sigma} }
func blur(radius int) op.Op                 { return op.Op{Kind: op.Blur, Radius: radius} }
func kernel(x, y []int64) op.Op             { return op.Op{Kind: op.Kernel, X: x, Y: y} }
func resizeTo(w, h int, f raw.Filter) op.Op { return op.Op{Kind: op.Resize, W: w, H: h, Filter: f} }
func with(p border.Policy, o op.Op) op.Op   { o.Border = p; return o }

func makeStage(t *testing.T, o op.Op, width, height int) op.Stage {
	t.Helper()
	s, e := op.Make(o, width, height)
	if e != api.OK {
		t.Fatalf("%v, of %d by %d: %d", o, width, height, e)
	}
	return s
}

func makeImage(t *testing.T, width, height, channels, most int, l ...uint16) *raster.Image {
	t.Helper()
	m, e := raster.Of(width, height, channels, most, l)
	if e != api.OK {
		t.Fatalf("%d by %d, of %d up to %d: %d", width, height, channels, most, e)
	}
	return m
}

// noise: an image of any samples, the least and the greatest one often among them.
func noise(t *testing.T, width, height, channels, most int) *raster.Image {
	t.Helper()
	r := rand.New(rand.NewSource(int64(width + 100*height + 10000*channels + most)))
	l := make([]uint16, width*height*channels)
	for i := range l {
		l[i] = []uint16{0, uint16(most), uint16(r.Intn(most + 1)), uint16(r.Intn(most + 1))}[r.Intn(4)]
	}
	return makeImage(t, width, height, channels, most, l...)
}

func resizeTable(t *testing.T, f raw.Filter, n, m int) *table.Table {
	t.Helper()
	x, e := table.Resize(f, n, m)
	if e != api.OK {
		t.Fatalf("filter %d, from %d to %d: %d", f, n, m, e)
	}
	return x
}

func filterTable(t *testing.T, n int, l ...int64) *table.Table {
	t.Helper()
	x, e := table.Filter(l, n)
	if e != api.OK {
		t.Fatalf("%d weights, of %d: %d", len(l), n, e)
	}
	return x
}

// ofTaps: the table from n to n whose outputs have just these taps, which come to 2^14.
func ofTaps(t *testing.T, n int, own ...int64) *table.Table {
	t.Helper()
	weights := make([]int64, len(own))
	for i, tap := range own {
		weights[i] = tap << 14
	}
	x := filterTable(t, n, weights...)
	if got := x.Line(0).Taps; !slices.Equal(got, own) {
		t.Fatalf("taps %d, not %d", got, own)
	}
	return x
}

// someImages: of one and three channels, of several sizes.
func someImages(t *testing.T) []*raster.Image {
	t.Helper()
	return []*raster.Image{
		makeImage(t, 1, 1, 1, 255, 7),
		makeImage(t, 1, 1, 3, 65535, 0, 65535, 300),
		noise(t, 6, 1, 1, 255),
		noise(t, 1, 5, 3, 9),
		noise(t, 4, 3, 3, 255),
		noise(t, 5, 7, 1, 65535),
		noise(t, 7, 6, 3, 65535),
		noise(t, 3, 4, 1, 1),
	}
}

// someOps: of all kinds; weights below 0; resizes up, down, and up one way and down the other.
func someOps() []op.Op {
	l := []op.Op{
		gauss(1), gauss(40000), gauss(150000),
		blur(0), blur(1), blur(2), blur(9),
		kernel([]int64{1, 2, 1}, []int64{1}),
		kernel([]int64{1}, []int64{3, 0, 1}),
		kernel([]int64{-1, 4, -1}, []int64{-2, 7, -1}),
		kernel([]int64{-1, -2, 9, 0, 1}, []int64{5, -3, 0, -1, 1, 2, 0}),
		kernel([]int64{0, 0, 0, 0, 1}, []int64{1, 0, 0}),
	}
	for _, f := range []raw.Filter{raw.Box, raw.Cubic, raw.Lanczos} {
		for _, to := range [][2]int{{1, 1}, {2, 3}, {9, 8}, {11, 2}, {2, 13}, {4, 4}} {
			l = append(l, resizeTo(to[0], to[1], f))
		}
	}
	return l
}

// eachStage: of all images, operations and borders; and of each operation along rows with another one along columns.
func eachStage(t *testing.T, do func(name string, m *raster.Image, s op.Stage)) {
	t.Helper()
	l := someOps()
	for i, m := range someImages(t) {
		for k, o := range l {
			for _, p := range borders {
				s := makeStage(t, with(p, o), m.Width(), m.Height())
				do(fmt.Sprintf("image %d, %v", i, with(p, o)), m, s)
				other := l[(k+11)%len(l)]
				s.Y = makeStage(t, other, m.Width(), m.Height()).Y
				do(fmt.Sprintf("image %d, %v, and along columns %v", i, with(p, o), other), m, s)
			}
		}
	}
}

// tellStands: by chapter 7's words, which of n samples stands for j.
func tellStands(p border.Policy, j, n int64) int64 {
	switch p {
	case border.Clamp:
		return max(0, min(j, n-1))
	case border.Wrap:
		return (j%n + n) % n
	}
	// There and back, again and again.
	j = (j%(2*n) + 2*n) % (2 * n)
	if j >= n {
		return 2*n - 1 - j
	}
	return j
}

// tellSum: by the chapter's words, of all taps of both lines, over unbounded integers.
func tellSum(m *raster.Image, s op.Stage, x, y, c int) *big.Int {
	sum := new(big.Int)
	across, down := s.X.Line(x), s.Y.Line(y)
	for i, a := range across.Taps {
		column := tellStands(s.Border, across.First+int64(i), int64(m.Width()))
		for k, b := range down.Taps {
			row := tellStands(s.Border, down.First+int64(k), int64(m.Height()))
			v := big.NewInt(int64(m.At(int(column), int(row), c)))
			v.Mul(v, big.NewInt(a))
			sum.Add(sum, v.Mul(v, big.NewInt(b)))
		}
	}
	return sum
}

// tellHeld: at the least, or the greatest, number.
func tellHeld(x *big.Int) int64 {
	switch {
	case x.IsInt64():
		return x.Int64()
	case x.Sign() < 0:
		return math.MinInt64
	}
	return math.MaxInt64
}

// tellRound: by the chapter's words, over unbounded integers, with a greatest sample that may be.
func tellRound(sum *big.Int, most int) uint16 {
	x := new(big.Int).Add(sum, big.NewInt(half))
	// The language's Div goes down, of a divisor above 0.
	x.Div(x, big.NewInt(one))
	switch {
	case x.Sign() < 0:
		return 0
	case x.Cmp(big.NewInt(int64(most))) > 0:
		return uint16(most)
	}
	return uint16(x.Int64())
}

// checkSums: is each output sample's sum, and what comes out, as the chapter's words tell?
func checkSums(t *testing.T, name string, m *raster.Image, s op.Stage) {
	t.Helper()
	out, e := Apply(m, s)
	if e != api.OK || out == nil {
		t.Fatalf("%s: %v, %d", name, out, e)
	}
	if out.Width() != s.X.To() || out.Height() != s.Y.To() || out.Channels() != m.Channels() || out.Most() != m.Most() {
		t.Fatalf("%s: %d by %d, of %d up to %d", name, out.Width(), out.Height(), out.Channels(), out.Most())
	}
	for y := range s.Y.To() {
		for x := range s.X.To() {
			for c := range m.Channels() {
				want := tellSum(m, s, x, y, c)
				got := Sum(m, s, x, y, c)
				if got != tellHeld(want) {
					t.Fatalf("%s: the sum at %d, %d, %d: %d, not %d", name, x, y, c, got, want)
				}
				v := out.At(x, y, c)
				if v != tellRound(want, m.Most()) || v != Round(got, m.Most()) {
					t.Fatalf("%s: at %d, %d, %d: %d, of a sum of %d", name, x, y, c, v, want)
				}
			}
		}
	}
}

// checkNone: an image that a stage doesn't suit.
func checkNone(t *testing.T, name string, m *raster.Image, s op.Stage) {
	t.Helper()
	if Suits(m, s) {
		t.Errorf("%s: suits", name)
	}
	for _, x := range []int{0, 1, -1, greatest} {
		if n := Sum(m, s, x, x, 0); n != 0 {
			t.Errorf("%s: a sum of %d", name, n)
		}
	}
	checkCode(t, name, m, s, api.BadOp)
}

// checkCode: does Apply tell this code, and no image? Compose of it alone too.
func checkCode(t *testing.T, name string, m *raster.Image, s op.Stage, want api.Code) {
	t.Helper()
	if out, e := Apply(m, s); e != want || out != nil {
		t.Errorf("%s: %v, %d, not %d", name, out, e, want)
	}
	if out, e := Compose(m, []op.Stage{s}); e != want || out != nil {
		t.Errorf("%s: of one stage %v, %d, not %d", name, out, e, want)
	}
}

// P15.1: a stage suits by both tables' sources and its border, whatever it leads to.
func TestSuits(t *testing.T) {
	for _, m := range []*raster.Image{noise(t, 5, 4, 1, 255), noise(t, 5, 4, 3, 65535)} {
		for _, x := range []*table.Table{table.Same(5), filterTable(t, 5, one, one, one), resizeTable(t, raw.Box, 5, 1), resizeTable(t, raw.Cubic, 5, 4), resizeTable(t, raw.Lanczos, 5, 12)} {
			for _, y := range []*table.Table{table.Same(4), filterTable(t, 4, one, 0, 0), resizeTable(t, raw.Lanczos, 4, 1), resizeTable(t, raw.Box, 4, 5), resizeTable(t, raw.Cubic, 4, 9)} {
				for _, p := range borders {
					if !Suits(m, op.Stage{X: x, Y: y, Border: p}) {
						t.Errorf("from %d to %d, from %d to %d, border %d: suits not", x.From(), x.To(), y.From(), y.To(), p)
					}
				}
			}
		}
	}
}

// P15.1, P15.2: a stage without a table along rows, along columns, without both: suits not, has no sums, is BadOp.
func TestWithoutTables(t *testing.T) {
	m, x, y := noise(t, 5, 4, 1, 255), table.Same(5), table.Same(4)
	for _, p := range append([]border.Policy{0, 1, 2}, notBorders...) {
		checkNone(t, "without X", m, op.Stage{Y: y, Border: p})
		checkNone(t, "without Y", m, op.Stage{X: x, Border: p})
		checkNone(t, "without both", m, op.Stage{Border: p})
	}
}

// P15.1, P15.2: tables from another width, from another height, from both; what they lead to doesn't count.
func TestFromOthers(t *testing.T) {
	m := noise(t, 5, 4, 3, 255)
	for _, p := range borders {
		for _, n := range []int{1, 2, 3, 6, 7, 10, 15, 20, side} {
			checkNone(t, fmt.Sprint("from a width of ", n), m, op.Stage{X: table.Same(n), Y: table.Same(4), Border: p})
			checkNone(t, fmt.Sprint("from a height of ", n), m, op.Stage{X: table.Same(5), Y: table.Same(n), Border: p})
		}
		checkNone(t, "from a width of 4", m, op.Stage{X: table.Same(4), Y: table.Same(4), Border: p})
		checkNone(t, "from a height of 5", m, op.Stage{X: table.Same(5), Y: table.Same(5), Border: p})
		checkNone(t, "the wrong way round", m, op.Stage{X: table.Same(4), Y: table.Same(5), Border: p})
		checkNone(t, "to that width", m, op.Stage{X: resizeTable(t, raw.Box, 9, 5), Y: table.Same(4), Border: p})
		checkNone(t, "to that height", m, op.Stage{X: table.Same(5), Y: resizeTable(t, raw.Cubic, 2, 4), Border: p})
		checkNone(t, "to both", m, op.Stage{X: resizeTable(t, raw.Lanczos, 4, 5), Y: resizeTable(t, raw.Lanczos, 5, 4), Border: p})
	}
}

// P15.1, P15.2: a border that there isn't.
func TestBorders(t *testing.T) {
	for _, m := range []*raster.Image{noise(t, 5, 4, 1, 255), makeImage(t, 1, 1, 1, 255, 7)} {
		s := makeStage(t, blur(1), m.Width(), m.Height())
		for _, p := range borders {
			s.Border = p
			checkSums(t, fmt.Sprint("border ", p), m, s)
		}
		for _, p := range notBorders {
			s.Border = p
			checkNone(t, fmt.Sprint("border ", p), m, s)
		}
	}
}

// P15.1: sums written out.
func TestSum(t *testing.T) {
	row := makeImage(t, 3, 1, 1, 255, 0, 100, 200)
	pixels := makeImage(t, 2, 2, 3, 255, 1, 2, 3, 10, 20, 30, 100, 200, 255, 4, 0, 8)
	quarter := kernel([]int64{1, 2, 1}, []int64{1})
	cross := kernel([]int64{1, 2, 1}, []int64{1, 1, 2})
	for i, c := range []struct {
		m       *raster.Image
		o       op.Op
		x, y, c int
		want    int64
	}{
		// A quarter of both beside, a half of its own.
		{row, quarter, 0, 0, 0, 25 * one},
		{row, quarter, 1, 0, 0, 100 * one},
		{row, quarter, 2, 0, 0, 175 * one},
		{row, with(border.Wrap, quarter), 0, 0, 0, 75 * one},
		{row, with(border.Wrap, quarter), 2, 0, 0, 125 * one},
		{row, with(border.Mirror, quarter), 0, 0, 0, 25 * one},
		// The second one ahead: by a mirror the second one.
		{row, with(border.Mirror, kernel([]int64{1, 0, 0, 0, 0}, []int64{1})), 0, 0, 0, 100 * one},
		{row, with(border.Clamp, kernel([]int64{1, 0, 0, 0, 0}, []int64{1})), 0, 0, 0, 0},
		{row, with(border.Wrap, kernel([]int64{1, 0, 0, 0, 0}, []int64{1})), 0, 0, 0, 100 * one},
		{row, with(border.Wrap, kernel([]int64{1, 0, 0}, []int64{1})), 0, 0, 0, 200 * one},
		// Twice its own, less half of both beside.
		{row, kernel([]int64{-1, 4, -1}, []int64{1}), 0, 0, 0, -50 * one},
		{row, kernel([]int64{-1, 4, -1}, []int64{1}), 2, 0, 0, 250 * one},
		// Taps of 5462, 5461, 5461.
		{row, resizeTo(1, 2, raw.Box), 0, 1, 0, (5461*100 + 5461*200) * 16384},
		// Along columns a quarter, a quarter, and a half of the row below.
		{pixels, cross, 0, 0, 0, one/4*(3*1+10)/2 + one/8*(3*100+4)},
		{pixels, cross, 1, 0, 2, one/4*(3*30+3)/2 + one/8*(3*8+255)},
		{pixels, cross, 0, 1, 1, one/16*(3*2+20) + one*3/16*(3*200+0)},
		{pixels, with(border.Wrap, cross), 0, 0, 0, one/8*(1+10) + one*3/8*(100+4)},
	} {
		if n := Sum(c.m, makeStage(t, c.o, c.m.Width(), c.m.Height()), c.x, c.y, c.c); n != c.want {
			t.Errorf("%d, %v at %d, %d, %d: %d, not %d", i, c.o, c.x, c.y, c.c, n, c.want)
		}
	}
}

// P15.1, P15.2: each sum, and each sample of what comes out, against the double sum.
func TestSums(t *testing.T) {
	eachStage(t, func(name string, m *raster.Image, s op.Stage) { checkSums(t, name, m, s) })
}

// P15.1: no sum of an output sample that there isn't, nor of a channel; the source's own sizes don't count.
func TestSumNone(t *testing.T) {
	for _, m := range []*raster.Image{makeImage(t, 1, 1, 1, 9, 9), makeImage(t, 5, 4, 1, 255, slices.Repeat([]uint16{255}, 20)...), makeImage(t, 5, 4, 3, 255, slices.Repeat([]uint16{255}, 60)...)} {
		for _, o := range []op.Op{blur(0), blur(1), resizeTo(2, 3, raw.Box), resizeTo(9, 11, raw.Lanczos), resizeTo(1, 1, raw.Cubic)} {
			for _, p := range borders {
				s := makeStage(t, with(p, o), m.Width(), m.Height())
				none := func(x, y, c int) {
					t.Helper()
					if n := Sum(m, s, x, y, c); n != 0 {
						t.Errorf("%v at %d, %d, %d: %d", o, x, y, c, n)
					}
				}
				lastX, lastY, lastC := s.X.To()-1, s.Y.To()-1, m.Channels()-1
				for _, x := range beside(s.X.To()) {
					none(x, 0, 0)
					none(x, lastY, lastC)
					for _, y := range beside(s.Y.To()) {
						none(x, y, 0)
					}
				}
				for _, y := range beside(s.Y.To()) {
					none(0, y, 0)
					none(lastX, y, lastC)
				}
				for _, c := range beside(m.Channels()) {
					none(0, 0, c)
					none(lastX, lastY, c)
				}
				if n := Sum(m, s, lastX, lastY, lastC); n != int64(m.Most())*one {
					t.Errorf("%v at the last one: %d", o, n)
				}
			}
		}
	}
}

// P15.1: what comes out of sums, written out.
func TestRound(t *testing.T) {
	for _, c := range []struct {
		sum  int64
		most int
		want uint16
	}{
		{0, 0, 0}, {0, 1, 0}, {0, 255, 0}, {0, 65535, 0}, {0, -1, 0}, {0, 65536, 0}, {0, least, 0}, {0, greatest, 0},
		{half, 255, 1}, {half - 1, 255, 0}, {half + 1, 255, 1}, {one + half, 255, 2}, {one + half - 1, 255, 1}, {one, 255, 1}, {one - 1, 255, 1}, {one + 1, 255, 1},
		{half, 1, 1}, {half, 0, 0}, {half, -1, 0}, {half, least, 0}, {half, greatest, 1}, {half, 65536, 1}, {one + half, 1, 1}, {one, 0, 0},
		{-1, 255, 0}, {-half, 255, 0}, {-half - 1, 255, 0}, {-half + 1, 255, 0}, {-one, 255, 0}, {-one - half, 255, 0}, {-one - half - 1, 65535, 0}, {-255 * one, 255, 0}, {-65536 * one, 65535, 0},
		{254*one + half, 255, 255}, {254*one + half - 1, 255, 254}, {255 * one, 255, 255}, {255*one + half - 1, 255, 255}, {255*one + half, 255, 255}, {256 * one, 255, 255}, {256 * one, 256, 256},
		{65534*one + half, 65535, 65535}, {65534*one + half - 1, 65535, 65534}, {65535 * one, 65535, 65535}, {65535*one + half, 65535, 65535}, {65536 * one, 65535, 65535}, {65537 * one, 65535, 65535},
		{65535*one + half, 65536, 65535}, {65536 * one, 65536, 65535}, {65537 * one, 65537, 65535}, {65536 * one, greatest, 65535}, {1 << 62, 1 << 32, 65535}, {300 * one, 1<<32 + 7, 300}, {300 * one, 65536 + 7, 300}, {300 * one, -1<<32 + 7, 0}, {300 * one, -1<<16 + 7, 0},
		{65536 * one, 7, 7}, {65537 * one, 7, 7}, {1 << 44, 255, 255}, {1<<44 + one, 255, 255}, {-1 << 44, 255, 0}, {1 - 1<<44, 255, 0}, {one - 1<<44, 255, 0},
		{math.MaxInt64, 0, 0}, {math.MaxInt64, 1, 1}, {math.MaxInt64, 255, 255}, {math.MaxInt64, 65535, 65535}, {math.MaxInt64, -1, 0}, {math.MaxInt64, 65536, 65535}, {math.MaxInt64, least, 0}, {math.MaxInt64, greatest, 65535},
		{math.MinInt64, 0, 0}, {math.MinInt64, 1, 0}, {math.MinInt64, 255, 0}, {math.MinInt64, 65535, 0}, {math.MinInt64, -1, 0}, {math.MinInt64, 65536, 0}, {math.MinInt64, least, 0}, {math.MinInt64, greatest, 0},
	} {
		if v := Round(c.sum, c.most); v != c.want {
			t.Errorf("%d, up to %d: %d, not %d", c.sum, c.most, v, c.want)
		}
	}
}

// P15.1: what comes out of sums about whole ones and halves, against the chapter's words over unbounded integers.
func TestRounds(t *testing.T) {
	wholes := []int64{-1 << 35, 1 - 1<<35, -65537, -65536, -65535, -256, -3, -2, -1, 0, 1, 2, 3, 127, 128, 254, 255, 256, 1000, 32767, 32768, 65534, 65535, 65536, 65537, 1<<32 + 5, 1<<34 - 1, 1<<35 - 1}
	beyond := []int64{-half - 1, -half, -half + 1, -1, 0, 1, half - 1, half, half + 1}
	for _, whole := range wholes {
		for _, more := range beyond {
			sum := whole*one + more
			// The ends go round: any sum is as good.
			for _, most := range []int{0, 1, 2, 7, 255, 256, 65534, 65535, 65536, 65537, -1, -255, -65535, least, greatest, 1 << 32, 1<<32 + 9, -1 << 32, least + 1, greatest - 1} {
				want := tellRound(big.NewInt(sum), max(0, min(most, 65535)))
				if v := Round(sum, most); v != want {
					t.Errorf("%d, up to %d: %d, not %d", sum, most, v, want)
				}
			}
		}
	}
}

// P15.2: the chapter's example, of all radii.
func TestExample(t *testing.T) {
	m := makeImage(t, 1, 1, 1, 255, 7)
	for radius := range 512 {
		out, e := Apply(m, makeStage(t, with(borders[radius%3], blur(radius)), 1, 1))
		if e != api.OK || !out.Same(m) {
			t.Fatalf("radius %d: %v, %d", radius, out, e)
		}
	}
}

// P15.2: what comes out, written out.
func TestApply(t *testing.T) {
	row := makeImage(t, 3, 1, 1, 255, 0, 100, 200)
	lower := makeImage(t, 3, 1, 1, 200, 0, 100, 200)
	column := makeImage(t, 1, 3, 1, 255, 0, 100, 200)
	two := makeImage(t, 2, 1, 1, 9, 0, 2)
	corner := makeImage(t, 2, 2, 1, 1, 0, 0, 0, 1)
	pixels := makeImage(t, 2, 1, 3, 255, 1, 20, 255, 3, 40, 0)
	sharp := []int64{-1, 4, -1}
	for i, c := range []struct {
		m             *raster.Image
		o             op.Op
		width, height int
		want          []uint16
	}{
		{row, blur(0), 3, 1, []uint16{0, 100, 200}},
		{row, kernel([]int64{1, 2, 1}, []int64{1}), 3, 1, []uint16{25, 100, 175}},
		{row, kernel([]int64{1}, []int64{1, 2, 1}), 3, 1, []uint16{0, 100, 200}},
		{row, with(border.Wrap, kernel([]int64{1, 2, 1}, []int64{1})), 3, 1, []uint16{75, 100, 125}},
		{row, with(border.Wrap, kernel([]int64{1, 0, 0}, []int64{1})), 3, 1, []uint16{200, 0, 100}},
		{row, with(border.Mirror, kernel([]int64{1, 0, 0, 0, 0}, []int64{1})), 3, 1, []uint16{100, 0, 0}},
		{row, with(border.Mirror, kernel([]int64{0, 0, 0, 0, 1}, []int64{1})), 3, 1, []uint16{200, 200, 100}},
		{column, kernel([]int64{1}, []int64{1, 2, 1}), 1, 3, []uint16{25, 100, 175}},
		{column, with(border.Wrap, kernel([]int64{1}, []int64{1, 0, 0})), 1, 3, []uint16{200, 0, 100}},
		{column, with(border.Mirror, kernel([]int64{9, 9, 9}, []int64{0, 0, 0, 0, 1})), 1, 3, []uint16{200, 200, 100}},
		// Below 0, and above the greatest sample.
		{row, kernel(sharp, []int64{1}), 3, 1, []uint16{0, 100, 250}},
		{lower, kernel(sharp, []int64{1}), 3, 1, []uint16{0, 100, 200}},
		{column, kernel([]int64{1}, sharp), 1, 3, []uint16{0, 100, 250}},
		{row, kernel([]int64{-2, 7, -2}, []int64{1}), 3, 1, []uint16{0, 100, 255}},
		// Halves go up.
		{two, kernel([]int64{1, 2, 1}, []int64{1}), 2, 1, []uint16{1, 2}},
		{two, kernel([]int64{1, 6, 1}, []int64{1}), 2, 1, []uint16{0, 2}},
		// Rounded once: a quarter of one is nothing, though half of one were one.
		{corner, resizeTo(1, 1, raw.Box), 1, 1, []uint16{0}},
		{corner, resizeTo(2, 1, raw.Box), 2, 1, []uint16{0, 1}},
		{corner, resizeTo(1, 2, raw.Box), 1, 2, []uint16{0, 1}},
		{row, resizeTo(1, 2, raw.Box), 1, 2, []uint16{100, 100}},
		{row, resizeTo(6, 1, raw.Box), 6, 1, []uint16{0, 0, 100, 100, 200, 200}},
		{column, resizeTo(2, 6, raw.Box), 2, 6, []uint16{0, 0, 0, 0, 100, 100, 100, 100, 200, 200, 200, 200}},
		{pixels, resizeTo(1, 2, raw.Box), 1, 2, []uint16{2, 30, 128, 2, 30, 128}},
		{pixels, with(border.Wrap, kernel([]int64{0, 0, 1}, []int64{1})), 2, 1, []uint16{3, 40, 0, 1, 20, 255}},
	} {
		out, e := Apply(c.m, makeStage(t, c.o, c.m.Width(), c.m.Height()))
		want := makeImage(t, c.width, c.height, c.m.Channels(), c.m.Most(), c.want...)
		if e != api.OK || !out.Same(want) {
			t.Errorf("%d, %v: %v, %d, not %v", i, c.o, out, e, want)
		}
	}
}

// P15.2: longer sides, against the double sum.
func TestLonger(t *testing.T) {
	wide, high := noise(t, 150, 3, 1, 255), noise(t, 2, 140, 3, 65535)
	for _, p := range borders {
		for _, o := range []op.Op{gauss(200000), blur(30), resizeTo(40, 2, raw.Lanczos), resizeTo(3, 33, raw.Cubic), resizeTo(211, 5, raw.Box)} {
			o = with(p, o)
			checkSums(t, fmt.Sprint("wide, ", o), wide, makeStage(t, o, 150, 3))
			checkSums(t, fmt.Sprint("high, ", o), high, makeStage(t, o, 2, 140))
		}
	}
}

// P15.2: of the greatest sides.
func TestLongest(t *testing.T) {
	m := makeImage(t, 2, 1, 1, 65535, 0, 65535)
	s := makeStage(t, resizeTo(side, 1, raw.Box), 2, 1)
	out, e := Apply(m, s)
	want := append(make([]uint16, side/2), slices.Repeat([]uint16{65535}, side/2)...)
	if e != api.OK || out.Width() != side || out.Height() != 1 || !slices.Equal(out.Samples(), want) {
		t.Fatalf("to %d: %d", side, e)
	}
	back, e := Compose(out, []op.Stage{makeStage(t, resizeTo(2, 1, raw.Box), side, 1)})
	if e != api.OK || !back.Same(m) {
		t.Errorf("there and back: %v, %d", back, e)
	}
	high, e := Apply(m, makeStage(t, resizeTo(1, side, raw.Box), 2, 1))
	if e != api.OK || high.Width() != 1 || high.Height() != side || !slices.Equal(high.Samples(), slices.Repeat([]uint16{32768}, side)) {
		t.Errorf("to a height of %d: %d", side, e)
	}
}

// P15.2: what comes out doesn't fit, of a stage that suits; of one that doesn't BadOp is asked first.
func TestTooLarge(t *testing.T) {
	up := func(n, m int) *table.Table { return resizeTable(t, raw.Box, n, m) }
	gray, colour := makeImage(t, 1, 2, 1, 9, 9, 8), makeImage(t, 2, 1, 3, 9, 1, 2, 3, 4, 5, 6)
	for _, p := range borders {
		for _, to := range [][2]int{{side, 4097}, {4097, side}, {1<<14 + 1, 1 << 14}, {1 << 14, 1<<14 + 1}, {side, side}} {
			s := op.Stage{X: up(1, to[0]), Y: up(2, to[1]), Border: p}
			if !Suits(gray, s) {
				t.Errorf("to %d by %d: suits not", to[0], to[1])
			}
			checkCode(t, fmt.Sprint("gray, to ", to), gray, s, api.TooLarge)
			checkNone(t, fmt.Sprint("colour, not its width, to ", to), colour, s)
			s.Border = 3 + p
			checkNone(t, fmt.Sprint("gray, no border, to ", to), gray, s)
		}
		// Three channels take three times as much: just more than fits, and what would fit of one channel.
		for _, to := range [][2]int{{side, 1366}, {1366, side}, {1 << 14, 1 << 14}, {6236, 14351}, {9460, 9460}} {
			s := op.Stage{X: up(2, to[0]), Y: up(1, to[1]), Border: p}
			checkCode(t, fmt.Sprint("colour, to ", to), colour, s, api.TooLarge)
			checkNone(t, fmt.Sprint("gray, not its width, to ", to), gray, s)
		}
		// Sums are there all the same.
		s := op.Stage{X: up(1, side), Y: up(2, side), Border: p}
		if n := Sum(gray, s, side-1, side-1, 0); n != 8*one {
			t.Errorf("the last sum: %d", n)
		}
		if n := Sum(gray, s, side, side-1, 0); n != 0 {
			t.Errorf("behind the last sum: %d", n)
		}
	}
}

// P15.2: an image of one colour stays so, whatever the stage, each channel its own.
func TestOneColour(t *testing.T) {
	for _, size := range [][2]int{{1, 1}, {5, 1}, {1, 4}, {4, 3}} {
		for _, pixel := range [][]uint16{{0}, {1}, {7}, {65535}, {1, 2, 3}, {65535, 0, 32768}} {
			m := makeImage(t, size[0], size[1], len(pixel), 65535, slices.Repeat(pixel, size[0]*size[1])...)
			for _, o := range append(someOps(), gauss(1<<22), blur(511)) {
				for _, p := range borders {
					s := makeStage(t, with(p, o), size[0], size[1])
					out, e := Apply(m, s)
					want := makeImage(t, s.X.To(), s.Y.To(), len(pixel), 65535, slices.Repeat(pixel, s.X.To()*s.Y.To())...)
					if e != api.OK || !out.Same(want) {
						t.Fatalf("%v, of %v: %v, %d", o, pixel, out, e)
					}
				}
			}
		}
	}
}

// overwrite: all samples another one.
func overwrite(m *raster.Image) {
	for y := range m.Height() {
		for x := range m.Width() {
			for c := range m.Channels() {
				m.Set(x, y, c, uint16(m.Most())-m.At(x, y, c))
			}
		}
	}
}

// P15.2, P15.3: of no stages a copy, apart from the image and from another copy.
func TestComposeNone(t *testing.T) {
	for _, m := range someImages(t) {
		was := m.Copy()
		for _, l := range [][]op.Stage{nil, {}, make([]op.Stage, 0, 4)} {
			first, e := Compose(m, l)
			second, f := Compose(m, l)
			if e != api.OK || f != api.OK || !first.Same(was) || !second.Same(was) {
				t.Fatalf("%v, %d, and %v, %d", first, e, second, f)
			}
			overwrite(first)
			if !m.Same(was) || !second.Same(was) {
				t.Fatalf("the image, or the other copy, shows what was written: %v, %v", m, second)
			}
			overwrite(m)
			if !second.Same(was) {
				t.Fatalf("a copy shows what was written: %v", second)
			}
			overwrite(m)
		}
	}
}

// someChain: stages, one behind the other, of operations for an image.
func someChain(t *testing.T, m *raster.Image, l ...op.Op) []op.Stage {
	t.Helper()
	stages, e := op.All(l, m.Width(), m.Height(), m.Channels())
	if e != api.OK {
		t.Fatalf("%v: %d", l, e)
	}
	return stages
}

// P15.2: several stages, one behind the other, each on what the one ahead made, rounded.
func TestCompose(t *testing.T) {
	ops := someOps()
	r := rand.New(rand.NewSource(15))
	for _, m := range someImages(t) {
		for count := range 7 {
			var l []op.Op
			for range count {
				l = append(l, with(borders[r.Intn(3)], ops[r.Intn(len(ops))]))
			}
			want := m.Copy()
			stages := someChain(t, m, l...)
			for _, s := range stages {
				next, e := Apply(want, s)
				if e != api.OK {
					t.Fatal(l, e)
				}
				want = next
			}
			out, e := Compose(m, stages)
			if e != api.OK || !out.Same(want) {
				t.Fatalf("%v: %v, %d, not %v", l, out, e, want)
			}
		}
	}
}

// P15.2: rounding between stages, and their order, written out.
func TestComposeOrder(t *testing.T) {
	m := makeImage(t, 2, 2, 1, 1, 0, 0, 0, 1)
	// Along rows first a half of one is one, and along columns again.
	out, e := Compose(m, someChain(t, m, resizeTo(1, 2, raw.Box), resizeTo(1, 1, raw.Box)))
	if e != api.OK || !out.Same(makeImage(t, 1, 1, 1, 1, 1)) {
		t.Errorf("%v, %d", out, e)
	}
	n := makeImage(t, 3, 1, 1, 200, 0, 100, 200)
	sharp, soft := kernel([]int64{-1, 4, -1}, []int64{1}), kernel([]int64{1, 2, 1}, []int64{1})
	// 0, 100, 200, and then 25, 100, 175.
	out, e = Compose(n, someChain(t, n, sharp, soft))
	if e != api.OK || !out.Same(makeImage(t, 3, 1, 1, 200, 25, 100, 175)) {
		t.Errorf("%v, %d", out, e)
	}
	// 25, 100, 175, and then 50 less 62 and a half, 100, 350 less 137 and a half.
	out, e = Compose(n, someChain(t, n, soft, sharp))
	if e != api.OK || !out.Same(makeImage(t, 3, 1, 1, 200, 0, 100, 200)) {
		t.Errorf("%v, %d", out, e)
	}
	// More stages than a request has operations.
	turn := with(border.Wrap, kernel([]int64{1, 0, 0}, []int64{1}))
	out, e = Compose(n, slices.Repeat(someChain(t, n, turn), 40))
	if e != api.OK || !out.Same(makeImage(t, 3, 1, 1, 200, 200, 0, 100)) {
		t.Errorf("%v, %d", out, e)
	}
}

// P15.2: the first stage with a code tells it, wherever it is; with it there is no image.
func TestComposeCodes(t *testing.T) {
	m := noise(t, 5, 4, 1, 255)
	up := func(from, to int) *table.Table { return resizeTable(t, raw.Box, from, to) }
	same, down := makeStage(t, blur(1), 5, 4), makeStage(t, resizeTo(3, 2, raw.Cubic), 5, 4)
	behind := makeStage(t, blur(1), 3, 2)
	large := op.Stage{X: up(5, side), Y: up(4, side)}
	largeBehind := op.Stage{X: up(3, side), Y: up(2, side)}
	for i, c := range []struct {
		l    []op.Stage
		want api.Code
	}{
		{[]op.Stage{{}}, api.BadOp},
		{[]op.Stage{same, {}}, api.BadOp},
		{[]op.Stage{{}, same}, api.BadOp},
		// Of the image itself, not of what the one ahead made.
		{[]op.Stage{down, same}, api.BadOp},
		{[]op.Stage{down, same, behind}, api.BadOp},
		{[]op.Stage{same, down, down, behind}, api.BadOp},
		{[]op.Stage{behind}, api.BadOp},
		{[]op.Stage{behind, down}, api.BadOp},
		{[]op.Stage{same, same, down, behind, same}, api.BadOp},
		{[]op.Stage{same, {X: same.X, Y: same.Y, Border: 3}, same}, api.BadOp},
		{[]op.Stage{large}, api.TooLarge},
		{[]op.Stage{same, large}, api.TooLarge},
		{[]op.Stage{large, same}, api.TooLarge},
		{[]op.Stage{down, largeBehind, behind}, api.TooLarge},
		{[]op.Stage{down, large}, api.BadOp},
		{[]op.Stage{large, {}}, api.TooLarge},
		{[]op.Stage{{}, large}, api.BadOp},
		{[]op.Stage{largeBehind, large}, api.BadOp},
	} {
		was, list := m.Copy(), slices.Clone(c.l)
		if out, e := Compose(m, c.l); e != c.want || out != nil {
			t.Errorf("%d: %v, %d, not %d", i, out, e, c.want)
		}
		if !m.Same(was) || !slices.Equal(c.l, list) {
			t.Errorf("%d: the image, or the list, is no more as it was", i)
		}
	}
	out, e := Compose(m, []op.Stage{same, down, behind, behind})
	if e != api.OK || out.Width() != 3 || out.Height() != 2 {
		t.Errorf("all suit: %v, %d", out, e)
	}
}

// tableLines: all that a table tells of itself.
func tableLines(x *table.Table) []table.Line {
	l := make([]table.Line, x.To())
	for i := range l {
		l[i] = x.Line(i)
	}
	return append(l, table.Line{First: int64(x.From()), Taps: []int64{int64(x.Most()), x.Size()}})
}

func sameLines(a, b []table.Line) bool {
	return slices.EqualFunc(a, b, func(a, b table.Line) bool { return a.First == b.First && slices.Equal(a.Taps, b.Taps) })
}

// P15.3: the image, the stage and the list of stages stay as they were, whatever is asked; what is answered can be written over.
func TestStays(t *testing.T) {
	eachStage(t, func(name string, m *raster.Image, s op.Stage) {
		was, stage, x, y := m.Copy(), s, tableLines(s.X), tableLines(s.Y)
		list := append(make([]op.Stage, 0, 3), s)
		first, _ := Apply(m, s)
		second, _ := Apply(m, s)
		third, _ := Compose(m, list)
		Suits(m, s)
		Sum(m, s, 0, 0, 0)
		told := first.Copy()
		overwrite(first)
		if !m.Same(was) || !second.Same(told) || !third.Same(told) {
			t.Fatalf("%s: the image, or another answer, shows what was written", name)
		}
		overwrite(third)
		overwrite(m)
		if !second.Same(told) {
			t.Fatalf("%s: an answer shows what was written", name)
		}
		overwrite(m)
		if again, e := Apply(m, s); e != api.OK || !m.Same(was) || !again.Same(told) {
			t.Fatalf("%s: another answer behind all that", name)
		}
		if s != stage || list[0] != stage || list[:3][1] != (op.Stage{}) || !sameLines(x, tableLines(s.X)) || !sameLines(y, tableLines(s.Y)) {
			t.Fatalf("%s: the stage, or the list, is no more as it was", name)
		}
	})
}

// heavyTables: from n, some with taps far above 2^14 and below 0, of which the last ones have a Size above 2^23.
func heavyTables(t *testing.T, n int) (bounded, heavier []*table.Table) {
	t.Helper()
	above, below := int64(topSize+1<<14)/2, int64(topSize-1<<14)/2
	bounded = []*table.Table{
		ofTaps(t, n, above, -below, 0),
		ofTaps(t, n, 0, -below, above),
		ofTaps(t, n, -below, 0, 0, 0, above),
		ofTaps(t, n, above/2, -below, above-above/2),
		ofTaps(t, n, -below/2, above, -(below - below/2)),
	}
	heavier = []*table.Table{
		ofTaps(t, n, 1<<26, 1<<14-1<<26, 0),
		ofTaps(t, n, -1<<26, 1<<14, 1<<26),
		ofTaps(t, n, 1<<26, 1<<14-1<<25, -1<<25),
		ofTaps(t, n, 1<<24, 0, 1<<14-1<<24),
		filterTable(t, n, -1<<40, 1<<40, -1<<40, 1<<40, 1<<28, 1<<40, -1<<40),
	}
	return bounded, heavier
}

// P15.3: no sum is beyond 2^62, of lines whose taps have a Size of up to 2^23, and each is told exactly.
func TestBounded(t *testing.T) {
	limit := new(big.Int).Lsh(big.NewInt(1), 62)
	for _, m := range []*raster.Image{noise(t, 2, 2, 1, 65535), noise(t, 4, 3, 3, 65535), noise(t, 3, 3, 1, 65535), makeImage(t, 2, 2, 1, 65535, 65535, 0, 0, 65535), makeImage(t, 2, 2, 1, 65535, 0, 65535, 65535, 0)} {
		across, _ := heavyTables(t, m.Width())
		down, _ := heavyTables(t, m.Height())
		for i, x := range across {
			for k, y := range down {
				if x.Size() != topSize || y.Size() != topSize {
					t.Fatalf("Sizes of %d, %d", x.Size(), y.Size())
				}
				for _, p := range borders {
					s := op.Stage{X: x, Y: y, Border: p}
					checkSums(t, fmt.Sprintf("taps %d, %d, border %d", i, k, p), m, s)
					if sum := tellSum(m, s, 0, 0, 0); sum.CmpAbs(limit) > 0 {
						t.Errorf("a sum of %d", sum)
					}
				}
			}
		}
	}
}

// P15.1, P15.2: of heavier taps a sum that a number holds is told exactly, another one held; what comes out is the sum's own.
func TestHeavier(t *testing.T) {
	for _, m := range []*raster.Image{noise(t, 1, 1, 1, 65535), noise(t, 2, 2, 1, 65535), noise(t, 4, 3, 3, 65535), makeImage(t, 2, 2, 1, 65535, 65535, 0, 0, 65535), makeImage(t, 2, 2, 1, 65535, 0, 65535, 65535, 0), makeImage(t, 3, 2, 1, 65535, 9, 9, 9, 9, 9, 9)} {
		light, across := heavyTables(t, m.Width())
		lightDown, down := heavyTables(t, m.Height())
		across, down = append(across, light[0], table.Same(m.Width())), append(down, lightDown[0], table.Same(m.Height()))
		for i, x := range across {
			for k, y := range down {
				for _, p := range borders {
					checkSums(t, fmt.Sprintf("taps %d, %d, border %d", i, k, p), m, op.Stage{X: x, Y: y, Border: p})
				}
			}
		}
	}
}

// P15.1: the heaviest taps that a table has, all of one sign on one column, or row.
func TestHeaviest(t *testing.T) {
	l := make([]int64, 1<<20-1)
	for i := range l {
		l[i] = 1<<40 - int64(i%2)<<41
	}
	// As many above 0 as below it, and 2^28, the least sum.
	l[0] = 1 << 28
	m := makeImage(t, 2, 2, 1, 65535, 65535, 0, 0, 0)
	x := filterTable(t, 2, l...)
	if x.Size() != 1<<46-1<<27+1<<14 {
		t.Fatalf("a Size of %d", x.Size())
	}
	for _, s := range []op.Stage{{X: x, Y: x, Border: border.Wrap}, {X: table.Same(2), Y: x, Border: border.Wrap}, {X: x, Y: table.Same(2), Border: border.Wrap}, {X: x, Y: x}} {
		checkLong(t, m, s)
	}
}

// P15.1, P15.2: lines of a million taps, of small images, end soon.
func TestLongLines(t *testing.T) {
	l := make([]int64, 1<<20-1)
	for i := range l {
		l[i] = int64(i%1000) << 20
	}
	m := noise(t, 3, 4, 1, 255)
	for _, p := range borders {
		checkLong(t, m, op.Stage{X: filterTable(t, 3, l...), Y: filterTable(t, 4, l...), Border: p})
	}
}

// tellWeights: by the chapter's words, of each source sample all taps together for which it stands.
func tellWeights(l table.Line, p border.Policy, n int) []int64 {
	weights := make([]int64, n)
	for k, tap := range l.Taps {
		weights[tellStands(p, l.First+int64(k), int64(n))] += tap
	}
	return weights
}

// checkLong: are sums, and what comes out, as told, of lines too long for a double sum?
func checkLong(t *testing.T, m *raster.Image, s op.Stage) {
	t.Helper()
	out, e := Apply(m, s)
	if e != api.OK {
		t.Fatal(e)
	}
	for y := range s.Y.To() {
		down := tellWeights(s.Y.Line(y), s.Border, m.Height())
		for x := range s.X.To() {
			sum := new(big.Int)
			for column, a := range tellWeights(s.X.Line(x), s.Border, m.Width()) {
				for row, b := range down {
					v := big.NewInt(int64(m.At(column, row, 0)))
					v.Mul(v, big.NewInt(a))
					sum.Add(sum, v.Mul(v, big.NewInt(b)))
				}
			}
			if got := Sum(m, s, x, y, 0); got != tellHeld(sum) {
				t.Errorf("at %d, %d: %d, not %d", x, y, got, sum)
			}
			if v := out.At(x, y, 0); v != tellRound(sum, m.Most()) {
				t.Errorf("at %d, %d: %d, of a sum of %d", x, y, v, sum)
			}
		}
	}
}

// P15.1: sums of products at and beyond a number's ends, against unbounded integers.
func TestTotal(t *testing.T) {
	edges := []int64{0, 1, -1, 2, -2, 3, 1 << 31, -1 << 31, 1 << 32, 1<<32 - 1, -1 << 32, 1 << 46, -1 << 46, 1 << 61, -1 << 61, 1<<62 - 1, 1 << 62, -1 << 62, math.MaxInt64, math.MinInt64, math.MaxInt64 - 1, math.MinInt64 + 1}
	check := func(l ...int64) {
		t.Helper()
		var got total
		want := new(big.Int)
		for i := 0; i < len(l); i += 2 {
			got.add(l[i], l[i+1])
			want.Add(want, new(big.Int).Mul(big.NewInt(l[i]), big.NewInt(l[i+1])))
			if n := got.held(); n != tellHeld(want) {
				t.Fatalf("%d: %d, not %d", l[:i+2], n, want)
			}
		}
	}
	for _, a := range edges {
		for _, b := range edges {
			check(a, b)
			for _, c := range edges {
				check(a, b, c, 1, c, -1)
				if a != math.MinInt64 {
					// There and back again.
					check(a, b, c, 1, -a, b)
				}
			}
		}
	}
}
