package raster

import (
	"math"
	"math/big"
	"slices"
	"testing"

	"smalto/api"
)

const (
	least    = math.MinInt
	greatest = math.MaxInt
	side     = 1 << 16 // the greatest side
	crowd    = 1 << 28 // the most samples
)

var notSides = []int{0, -1, -2, -3, -side, side + 1, side + 2, 2 * side, 1 << 31, 1 << 32, 1<<32 + 1, 1<<32 + 2, 1 << 62, -1 << 62, least, least + 1, greatest - 1, greatest}

var notChannels = []int{0, 2, 4, 5, 6, -1, -3, 255, side, 1<<32 + 1, 1<<32 + 3, -1<<32 + 1, least, least + 1, least + 3, greatest - 1, greatest}

var notMosts = []int{0, -1, -255, -65535, 65536, 65537, 1 << 31, 1 << 32, 1<<32 + 255, -1<<32 + 255, 1 << 62, least, least + 1, least + 255, greatest - 1, greatest}

var mosts = []int{1, 2, 9, 255, 256, 65534, 65535}

// beyond: what is no place of a row of n, of n rows, of n channels; with these some sums and products go round an int.
func beyond(n int) []int {
	return []int{-1, n, -2, -n, n + 1, 2 * n, -side, side, 1 << 31, 1 << 32, 1<<32 + n - 1, -1 << 32, 1 << 61, 1 << 62, 1<<62 + n - 1, -1 << 62, least, least + 1, least + n - 1, greatest - 1, greatest, greatest / n, greatest/n + 1, least / n, least/n - 1 + n}
}

// some: samples from 1 up to most, again and again.
func some(count, most int) []uint16 {
	l := make([]uint16, count)
	for i := range l {
		l[i] = uint16(1 + i%most)
	}
	return l
}

// of: an image that there is.
func of(t *testing.T, width, height, channels, most int, l []uint16) *Image {
	t.Helper()
	m, e := Of(width, height, channels, most, l)
	if e != api.OK || m == nil {
		t.Fatalf("%d by %d by %d, up to %d: %v and %d", width, height, channels, most, m, e)
	}
	return m
}

// checkImage: has an image just these, whichever way it is asked?
func checkImage(t *testing.T, m *Image, width, height, channels, most int, l []uint16) {
	t.Helper()
	if m == nil || m.Width() != width || m.Height() != height || m.Channels() != channels || m.Most() != most {
		t.Fatalf("%d by %d by %d, up to %d: another image", width, height, channels, most)
	}
	if got := m.Samples(); !slices.Equal(got, l) {
		t.Fatalf("%d by %d by %d: %d, not %d", width, height, channels, got, l)
	}
	rest := l
	for y := range height {
		var want []uint16
		want, rest = rest[:width*channels], rest[width*channels:]
		if got := m.Row(y); !slices.Equal(got, want) {
			t.Fatalf("%d by %d by %d, row %d: %d, not %d", width, height, channels, y, got, want)
		}
		for x := range width {
			for c := range channels {
				if got := m.At(x, y, c); got != want[0] {
					t.Fatalf("%d by %d by %d, at %d, %d, %d: %d, not %d", width, height, channels, x, y, c, got, want[0])
				}
				want = want[1:]
			}
		}
	}
}

// toldFits: the chapter's words, over unbounded integers.
func toldFits(width, height, channels int) bool {
	x := new(big.Int).Mul(big.NewInt(int64(width)), big.NewInt(int64(height)))
	x.Mul(x, big.NewInt(int64(channels)))
	sides := width >= 1 && width <= side && height >= 1 && height <= side
	return sides && (channels == 1 || channels == 3) && x.Cmp(big.NewInt(crowd)) <= 0
}

// toldCode: the first code of the chapter's order.
func toldCode(width, height, channels, most int) api.Code {
	switch {
	case most < 1 || most > 65535:
		return api.BadHeader
	case channels != 1 && channels != 3:
		return api.BadHeader
	case !toldFits(width, height, channels):
		return api.TooLarge
	}
	return api.OK
}

// P9.1: may an image have these?
func TestFits(t *testing.T) {
	for _, c := range []struct {
		width, height, channels int
		want                    bool
	}{
		{1, 1, 1, true}, {1, 1, 3, true}, {2, 1, 3, true}, {1, 2, 3, true}, {640, 480, 3, true}, {640, 480, 1, true},
		// Sides.
		{0, 1, 1, false}, {1, 0, 1, false}, {0, 0, 1, false}, {0, 1, 3, false}, {1, 0, 3, false}, {-1, 1, 1, false}, {1, -1, 1, false}, {-1, -1, 1, false}, {-1, -1, 3, false}, {-5, -7, 3, false},
		{side - 1, 1, 1, true}, {1, side - 1, 1, true}, {side, 1, 1, true}, {1, side, 1, true}, {side, 1, 3, true}, {1, side, 3, true}, {side + 1, 1, 1, false}, {1, side + 1, 1, false}, {side + 1, 1, 3, false}, {1, side + 1, 3, false}, {side + 1, side + 1, 1, false},
		{least, 1, 1, false}, {1, least, 1, false}, {greatest, 1, 1, false}, {1, greatest, 1, false}, {least, least, 1, false}, {greatest, greatest, 1, false}, {least, greatest, 3, false},
		// Channels.
		{1, 1, 0, false}, {1, 1, 2, false}, {1, 1, 4, false}, {1, 1, -1, false}, {1, 1, -3, false}, {5, 5, 2, false}, {1, 1, least, false}, {1, 1, greatest, false}, {-1, 1, -1, false}, {-1, 1, -3, false}, {0, 0, 0, false},
		// Just as many samples as there may be, and a row or a column more.
		{1 << 14, 1 << 14, 1, true}, {1 << 14, 1<<14 + 1, 1, false}, {1<<14 + 1, 1 << 14, 1, false}, {side, 4096, 1, true}, {side, 4097, 1, false}, {4096, side, 1, true}, {4097, side, 1, false}, {8191, 32768, 1, true}, {8192, 32768, 1, true}, {8193, 32768, 1, false},
		// 2^28 - 1 is 3 times 6235 times 14351.
		{6235, 14351, 3, true}, {6235, 14352, 3, false}, {6236, 14351, 3, false}, {side, 1365, 3, true}, {side, 1366, 3, false}, {1365, side, 3, true}, {1366, side, 3, false}, {1 << 14, 1 << 14, 3, false}, {9459, 9459, 3, true}, {9460, 9460, 3, false},
		{side, side, 1, false}, {side, side, 3, false}, {side - 1, side - 1, 1, false},
		// Products that go round an int, to 0, to 1 and to others that there may be.
		{1 << 32, 1 << 32, 1, false}, {1 << 62, 4, 1, false}, {4, 1 << 62, 3, false}, {least, 2, 1, false}, {2, least, 3, false}, {least, least, 3, false}, {1<<32 + 1, 1<<32 - 1, 1, false}, {greatest, greatest, 3, false}, {-6148914691236517205, 1, 3, false}, {1, -6148914691236517205, 3, false}, {3, 1, -6148914691236517205, false}, {1 << 16, 1 << 16, 1 << 32, false}, {1, 1, 1<<32 + 1, false}, {1, 1, 1<<32 + 3, false}, {1<<32 + 1, 1, 1, false}, {1, 1<<32 + 1, 3, false}, {1, 1, 1<<62 + 1, false},
	} {
		if Fits(c.width, c.height, c.channels) != c.want {
			t.Errorf("%d by %d by %d: not %v", c.width, c.height, c.channels, c.want)
		}
	}
}

// sides: those that there are, of which some are too many samples together, and some that there aren't.
func sides() []int {
	return append([]int{1, 2, 3, 5, 255, 1365, 1366, 4095, 4096, 4097, 6235, 8192, 14351, 14352, 1 << 14, 1<<14 + 1, 1 << 15, side - 1, side}, notSides...)
}

// P9.1: Fits, against the chapter's words over unbounded integers.
func TestFitsTold(t *testing.T) {
	for _, width := range sides() {
		for _, height := range sides() {
			for _, channels := range append([]int{1, 3}, notChannels...) {
				if want := toldFits(width, height, channels); Fits(width, height, channels) != want {
					t.Errorf("%d by %d by %d: not %v", width, height, channels, want)
				}
			}
		}
	}
}

// P9.1: noughts, as many as the image has.
func TestNew(t *testing.T) {
	for _, most := range mosts {
		for _, channels := range []int{1, 3} {
			for _, c := range [][2]int{{1, 1}, {2, 1}, {1, 2}, {5, 3}, {3, 5}, {side, 1}, {1, side}} {
				m, e := New(c[0], c[1], channels, most)
				if e != api.OK {
					t.Fatalf("%d by %d by %d, up to %d: %d", c[0], c[1], channels, most, e)
				}
				checkImage(t, m, c[0], c[1], channels, most, make([]uint16, c[0]*c[1]*channels))
			}
		}
	}
	m, e := New(2, 1, 3, 255)
	if e != api.OK || !slices.Equal(m.Samples(), []uint16{0, 0, 0, 0, 0, 0}) || m.Set(1, 0, 2, 256) {
		t.Error("the chapter's example")
	}
}

// P9.1: as many samples as there may be, of either count of channels.
func TestMostSamples(t *testing.T) {
	for _, c := range [][3]int{{side, 4096, 1}, {6235, 14351, 3}} {
		m, e := New(c[0], c[1], c[2], 65535)
		if e != api.OK {
			t.Fatal(c, e)
		}
		x, y, last := c[0]-1, c[1]-1, c[2]-1
		if m.At(x, y, last) != 0 || !m.Set(x, y, last, 65535) || m.At(x, y, last) != 65535 || m.At(x, y-1, last) != 0 || m.Set(x, y+1, last, 1) {
			t.Error(c, "the last sample")
		}
		if l := m.Row(y); len(l) != c[0]*c[2] || l[len(l)-1] != 65535 {
			t.Error(c, "the last row")
		}
		if m, e := New(c[0], c[1]+1, c[2], 65535); m != nil || e != api.TooLarge {
			t.Error(c, "one row more:", e)
		}
	}
}

// P9.1, P9.3: the first code, and then there is no image.
func TestNewCodes(t *testing.T) {
	for _, c := range []struct {
		width, height, channels, most int
		want                          api.Code
	}{
		{1, 1, 1, 1, api.OK}, {1, 1, 1, 65535, api.OK}, {1, 1, 3, 1, api.OK}, {2, 3, 3, 65535, api.OK},
		// One fault.
		{0, 1, 1, 255, api.TooLarge}, {1, 0, 1, 255, api.TooLarge}, {-1, 1, 1, 255, api.TooLarge}, {1, -1, 3, 255, api.TooLarge}, {side + 1, 1, 1, 255, api.TooLarge}, {1, side + 1, 3, 255, api.TooLarge}, {side, side, 1, 255, api.TooLarge}, {1 << 14, 1<<14 + 1, 1, 255, api.TooLarge}, {1 << 32, 1 << 32, 1, 255, api.TooLarge}, {least, least, 1, 255, api.TooLarge}, {greatest, greatest, 3, 255, api.TooLarge},
		{1, 1, 0, 255, api.BadHeader}, {1, 1, 2, 255, api.BadHeader}, {1, 1, 4, 255, api.BadHeader}, {1, 1, -1, 255, api.BadHeader}, {1, 1, least, 255, api.BadHeader}, {1, 1, greatest, 255, api.BadHeader},
		{1, 1, 1, 0, api.BadHeader}, {1, 1, 1, -1, api.BadHeader}, {1, 1, 1, 65536, api.BadHeader}, {1, 1, 3, least, api.BadHeader}, {1, 1, 3, greatest, api.BadHeader},
		// Two: channels, or the greatest sample, are asked ahead of the sides.
		{0, 1, 2, 255, api.BadHeader}, {0, 0, 2, 255, api.BadHeader}, {side, side, 2, 255, api.BadHeader}, {1, side + 1, 4, 255, api.BadHeader}, {least, 1, 0, 255, api.BadHeader}, {0, 1, 1, 0, api.BadHeader}, {1, 0, 3, 65536, api.BadHeader}, {side, side, 1, 0, api.BadHeader}, {side + 1, 1, 1, -1, api.BadHeader}, {1, 1, 2, 0, api.BadHeader}, {1, 1, 0, 65536, api.BadHeader}, {0, 0, 1, 255, api.TooLarge}, {-1, side + 1, 3, 255, api.TooLarge},
		// Three.
		{0, 0, 2, 0, api.BadHeader}, {side, side, 4, 65536, api.BadHeader}, {-1, 1, -1, -1, api.BadHeader}, {least, least, least, least, api.BadHeader}, {greatest, greatest, greatest, greatest, api.BadHeader},
	} {
		if m, e := New(c.width, c.height, c.channels, c.most); e != c.want || (m == nil) != (e != api.OK) {
			t.Errorf("%d by %d by %d, up to %d: %d, not %d", c.width, c.height, c.channels, c.most, e, c.want)
		}
	}
}

// faulty hands sides, channels and greatest samples that make no image to a test, and their code.
func faulty(f func(width, height, channels, most int, want api.Code)) {
	l := append([]int{1, 2, 1 << 14, 1<<14 + 1, side}, notSides...)
	for _, width := range l {
		for _, height := range l {
			for _, channels := range append([]int{1, 3}, notChannels...) {
				for _, most := range append([]int{1, 255, 65535}, notMosts...) {
					if want := toldCode(width, height, channels, most); want != api.OK {
						f(width, height, channels, most, want)
					}
				}
			}
		}
	}
}

// P9.1, P9.3: any faults together.
func TestNewCodesTold(t *testing.T) {
	faulty(func(width, height, channels, most int, want api.Code) {
		if m, e := New(width, height, channels, most); m != nil || e != want {
			t.Errorf("%d by %d by %d, up to %d: %v and %d, not %d", width, height, channels, most, m, e, want)
		}
	})
}

// P9.1: samples, in order.
func TestOf(t *testing.T) {
	m := of(t, 2, 3, 1, 9, []uint16{1, 2, 3, 4, 5, 9})
	for _, c := range []struct {
		x, y int
		want uint16
	}{{0, 0, 1}, {1, 0, 2}, {0, 1, 3}, {1, 1, 4}, {0, 2, 5}, {1, 2, 9}} {
		if got := m.At(c.x, c.y, 0); got != c.want {
			t.Errorf("at %d, %d: %d, not %d", c.x, c.y, got, c.want)
		}
	}
	m = of(t, 2, 2, 3, 65535, []uint16{1, 2, 3, 4, 5, 6, 7, 8, 9, 10, 11, 65535})
	for _, c := range []struct {
		x, y, c int
		want    uint16
	}{{0, 0, 0, 1}, {0, 0, 1, 2}, {0, 0, 2, 3}, {1, 0, 0, 4}, {1, 0, 2, 6}, {0, 1, 0, 7}, {0, 1, 1, 8}, {1, 1, 0, 10}, {1, 1, 1, 11}, {1, 1, 2, 65535}} {
		if got := m.At(c.x, c.y, c.c); got != c.want {
			t.Errorf("at %d, %d, %d: %d, not %d", c.x, c.y, c.c, got, c.want)
		}
	}
}

// P9.1, P9.2: images of many shapes, of each greatest sample; Width, Height, Channels, Most, At, Row and Samples.
func TestOfAll(t *testing.T) {
	for _, most := range mosts {
		for _, channels := range []int{1, 3} {
			for width := 1; width <= 6; width++ {
				for height := 1; height <= 6; height++ {
					l := some(width*height*channels, most)
					checkImage(t, of(t, width, height, channels, most, l), width, height, channels, most, l)
				}
			}
			for _, c := range [][2]int{{side, 1}, {1, side}, {300, 7}} {
				l := some(c[0]*c[1]*channels, most)
				checkImage(t, of(t, c[0], c[1], channels, most, l), c[0], c[1], channels, most, l)
			}
		}
	}
}

// P9.1: samples that are noughts, and those that are the greatest one, everywhere.
func TestOfEnds(t *testing.T) {
	for _, most := range mosts {
		for _, v := range []uint16{0, uint16(most)} {
			l := slices.Repeat([]uint16{v}, 12)
			checkImage(t, of(t, 2, 2, 3, most, l), 2, 2, 3, most, l)
			checkImage(t, of(t, 4, 3, 1, most, l), 4, 3, 1, most, l)
		}
	}
}

// P9.1, P9.3: the first code, and then there is no image.
func TestOfCodes(t *testing.T) {
	for _, c := range []struct {
		width, height, channels, most int
		l                             []uint16
		want                          api.Code
	}{
		{2, 2, 1, 9, []uint16{1, 2, 3, 9}, api.OK}, {1, 1, 1, 1, []uint16{1}, api.OK}, {1, 1, 1, 65535, []uint16{65535}, api.OK}, {1, 1, 3, 65535, []uint16{65535, 0, 65535}, api.OK},
		// None, too few, too many.
		{1, 1, 1, 9, nil, api.BadHeader}, {1, 1, 1, 9, []uint16{}, api.BadHeader}, {2, 2, 1, 9, nil, api.BadHeader}, {1, 1, 3, 9, nil, api.BadHeader}, {2, 2, 1, 9, []uint16{1, 2, 3}, api.BadHeader}, {2, 2, 1, 9, []uint16{1, 2, 3, 9, 1}, api.BadHeader}, {1, 1, 3, 9, []uint16{1, 2}, api.BadHeader}, {1, 1, 3, 9, []uint16{1, 2, 3, 4}, api.BadHeader}, {1, 1, 3, 9, []uint16{1}, api.BadHeader}, {1, 1, 1, 9, []uint16{1, 2, 3}, api.BadHeader}, {2, 2, 3, 9, []uint16{1, 2, 3, 4}, api.BadHeader}, {1, 1, 1, 9, []uint16{1, 1}, api.BadHeader}, {2, 3, 1, 9, some(12, 9), api.BadHeader},
		// As many as it has: one above the greatest, at either end and within.
		{1, 1, 1, 9, []uint16{10}, api.SampleAboveMaxval}, {2, 2, 1, 9, []uint16{10, 2, 3, 9}, api.SampleAboveMaxval}, {2, 2, 1, 9, []uint16{1, 10, 3, 9}, api.SampleAboveMaxval}, {2, 2, 1, 9, []uint16{1, 2, 10, 9}, api.SampleAboveMaxval}, {2, 2, 1, 9, []uint16{1, 2, 3, 10}, api.SampleAboveMaxval}, {1, 1, 3, 1, []uint16{0, 2, 0}, api.SampleAboveMaxval}, {1, 1, 1, 1, []uint16{2}, api.SampleAboveMaxval}, {1, 1, 1, 255, []uint16{256}, api.SampleAboveMaxval}, {1, 1, 1, 255, []uint16{65535}, api.SampleAboveMaxval}, {1, 1, 1, 65534, []uint16{65535}, api.SampleAboveMaxval}, {1, 1, 1, 32767, []uint16{32768}, api.SampleAboveMaxval}, {1, 2, 1, 9, []uint16{10, 11}, api.SampleAboveMaxval},
		// One above it, and too few or too many.
		{2, 2, 1, 9, []uint16{1, 2, 10}, api.BadHeader}, {2, 2, 1, 9, []uint16{1, 2, 3, 4, 10}, api.BadHeader}, {1, 1, 1, 9, []uint16{10, 10}, api.BadHeader},
		// One above it, and no such image.
		{0, 1, 1, 9, []uint16{10}, api.TooLarge}, {side + 1, 1, 1, 9, []uint16{10}, api.TooLarge}, {1, 1, 2, 9, []uint16{10, 10}, api.BadHeader}, {1, 1, 1, 0, []uint16{10}, api.BadHeader}, {1, 1, 1, 0, []uint16{0}, api.BadHeader}, {1, 1, 1, 65536, []uint16{65535}, api.BadHeader}, {1, 1, 1, -1, []uint16{0}, api.BadHeader},
		// The greatest one, and no such image; and too few or too many.
		{1, 0, 1, 9, []uint16{9}, api.TooLarge}, {1, 1, 2, 9, []uint16{9, 9}, api.BadHeader}, {2, 1, 1, 9, []uint16{9}, api.BadHeader}, {2, 1, 1, 9, []uint16{9, 9, 9}, api.BadHeader}, {-1, -1, 1, 9, []uint16{9}, api.TooLarge}, {-1, 1, -1, 9, []uint16{9}, api.BadHeader},
		// As many as the sides make of channels that may not be, none of no side, and products that go round an int.
		{0, 0, 1, 9, nil, api.TooLarge}, {0, 5, 3, 9, []uint16{}, api.TooLarge}, {1, 1, 0, 9, nil, api.BadHeader}, {2, 1, 2, 9, some(4, 9), api.BadHeader}, {1 << 32, 1 << 32, 1, 9, nil, api.TooLarge}, {1<<32 + 1, 1, 1, 9, []uint16{1}, api.TooLarge}, {side, side, 1, 9, []uint16{1}, api.TooLarge}, {0, 0, 0, 0, nil, api.BadHeader},
	} {
		m, e := Of(c.width, c.height, c.channels, c.most, c.l)
		if e != c.want || (m == nil) != (e != api.OK) {
			t.Errorf("%d by %d by %d, up to %d, of %d: %d, not %d", c.width, c.height, c.channels, c.most, c.l, e, c.want)
		}
	}
}

// P9.1, P9.3: New's codes, of any faults together, ahead of those of the samples.
func TestOfCodesTold(t *testing.T) {
	lists := [][]uint16{nil, {0}, {65535}, some(12, 9)}
	faulty(func(width, height, channels, most int, want api.Code) {
		for _, l := range lists {
			if m, e := Of(width, height, channels, most, l); m != nil || e != want {
				t.Errorf("%d by %d by %d, up to %d, of %d: %v and %d, not %d", width, height, channels, most, l, m, e, want)
			}
		}
	})
}

// P9.1: each count of samples but the one, with and without one above the greatest.
func TestOfCounts(t *testing.T) {
	for _, c := range [][3]int{{1, 1, 1}, {1, 1, 3}, {2, 3, 1}, {2, 3, 3}, {5, 1, 3}} {
		many := c[0] * c[1] * c[2]
		for count := range 3*many + 2 {
			for _, v := range []uint16{9, 10} {
				l := slices.Repeat([]uint16{v}, count)
				want := api.OK
				switch {
				case count != many:
					want = api.BadHeader
				case v > 9:
					want = api.SampleAboveMaxval
				}
				if m, e := Of(c[0], c[1], c[2], 9, l); e != want || (m == nil) != (e != api.OK) {
					t.Errorf("%d, of %d samples of %d: %d, not %d", c, count, v, e, want)
				}
			}
		}
	}
}

// P9.1: one sample above the greatest, wherever it stands, of each greatest one.
func TestOfAbove(t *testing.T) {
	for _, most := range mosts[:len(mosts)-1] {
		for k := range 12 {
			l := slices.Repeat([]uint16{uint16(most)}, 12)
			l[k]++
			if m, e := Of(2, 2, 3, most, l); m != nil || e != api.SampleAboveMaxval {
				t.Errorf("%d at place %d: %v and %d", most+1, k, m, e)
			}
			l[k] = 65535
			if m, e := Of(4, 3, 1, most, l); m != nil || e != api.SampleAboveMaxval {
				t.Errorf("65535 at place %d, up to %d: %v and %d", k, most, m, e)
			}
		}
	}
}

// images hands images, with how they were made, to a test.
func images(t *testing.T, f func(m *Image, width, height, channels, most int, l []uint16)) {
	t.Helper()
	for _, most := range mosts {
		for _, c := range [][3]int{{1, 1, 1}, {1, 1, 3}, {4, 1, 1}, {1, 4, 1}, {4, 1, 3}, {1, 4, 3}, {2, 3, 1}, {4, 2, 3}} {
			l := some(c[0]*c[1]*c[2], most)
			f(of(t, c[0], c[1], c[2], most, l), c[0], c[1], c[2], most, l)
		}
	}
}

// absent hands places of samples that there aren't to a test: one fault, or several.
func absent(width, height, channels int, f func(x, y, c int)) {
	xs, ys, cs := []int{0, width - 1}, []int{0, height - 1}, []int{0, channels - 1}
	for _, x := range append(beyond(width), xs...) {
		for _, y := range append(beyond(height), ys...) {
			for _, c := range append(beyond(channels), cs...) {
				if x < 0 || x >= width || y < 0 || y >= height || c < 0 || c >= channels {
					f(x, y, c)
				}
			}
		}
	}
}

// P9.2: of a sample that there isn't At is 0, Set false, and the image as it was.
func TestAbsent(t *testing.T) {
	images(t, func(m *Image, width, height, channels, most int, l []uint16) {
		absent(width, height, channels, func(x, y, c int) {
			if got := m.At(x, y, c); got != 0 {
				t.Errorf("%d by %d by %d, at %d, %d, %d: %d", width, height, channels, x, y, c, got)
			}
			for _, v := range []uint16{0, uint16(most)} {
				if m.Set(x, y, c, v) {
					t.Errorf("%d by %d by %d, set at %d, %d, %d", width, height, channels, x, y, c)
				}
			}
		})
		checkImage(t, m, width, height, channels, most, l)
	})
}

// P9.2: each corner: of one of samples, and set to 0, to 1 and to the greatest one.
func TestCorners(t *testing.T) {
	m := of(t, 3, 2, 3, 200, []uint16{1, 2, 3, 4, 5, 6, 7, 8, 9, 10, 11, 12, 13, 14, 15, 16, 17, 18})
	for _, c := range []struct {
		x, y, c int
		want    uint16
	}{{0, 0, 0, 1}, {0, 0, 2, 3}, {2, 0, 0, 7}, {2, 0, 2, 9}, {0, 1, 0, 10}, {0, 1, 2, 12}, {2, 1, 0, 16}, {2, 1, 2, 18}} {
		if got := m.At(c.x, c.y, c.c); got != c.want {
			t.Errorf("at %d, %d, %d: %d, not %d", c.x, c.y, c.c, got, c.want)
		}
		for _, v := range []uint16{0, 1, 200, c.want + 100} {
			if !m.Set(c.x, c.y, c.c, v) || m.At(c.x, c.y, c.c) != v {
				t.Errorf("%d at %d, %d, %d: %d", v, c.x, c.y, c.c, m.At(c.x, c.y, c.c))
			}
		}
	}
	checkImage(t, m, 3, 2, 3, 200, []uint16{101, 2, 103, 4, 5, 6, 107, 8, 109, 110, 11, 112, 13, 14, 15, 116, 17, 118})
}

// P9.2: a set changes the one sample alone, until the next one.
func TestSet(t *testing.T) {
	images(t, func(m *Image, width, height, channels, most int, l []uint16) {
		l = slices.Clone(l)
		k := 0
		for y := range height {
			for x := range width {
				for c := range channels {
					for _, v := range []uint16{0, uint16(most), uint16(most), l[k] - 1} {
						l[k] = v
						if !m.Set(x, y, c, v) {
							t.Errorf("%d by %d by %d, up to %d: no %d at %d, %d, %d", width, height, channels, most, v, x, y, c)
						}
						checkImage(t, m, width, height, channels, most, l)
					}
					k++
				}
			}
		}
	})
}

// P9.2: one above the greatest isn't set, and the image is as it was.
func TestSetAbove(t *testing.T) {
	images(t, func(m *Image, width, height, channels, most int, l []uint16) {
		for v := most + 1; v <= 65535; v += max(1, (65535-most)/3) {
			for _, x := range []int{0, width - 1} {
				for _, y := range []int{0, height - 1} {
					for _, c := range []int{0, channels - 1} {
						if m.Set(x, y, c, uint16(v)) {
							t.Errorf("%d by %d by %d, up to %d: %d at %d, %d, %d", width, height, channels, most, v, x, y, c)
						}
					}
				}
			}
		}
		checkImage(t, m, width, height, channels, most, l)
	})
}

// P9.2: the first row, the last, and none of one that there isn't.
func TestRow(t *testing.T) {
	m := of(t, 2, 3, 1, 9, []uint16{1, 2, 3, 4, 5, 9})
	if first, second, last := m.Row(0), m.Row(1), m.Row(2); !slices.Equal(first, []uint16{1, 2}) || !slices.Equal(second, []uint16{3, 4}) || !slices.Equal(last, []uint16{5, 9}) {
		t.Error(first, second, last)
	}
	m = of(t, 2, 2, 3, 99, []uint16{1, 2, 3, 4, 5, 6, 7, 8, 9, 10, 11, 12})
	if first, last := m.Row(0), m.Row(1); !slices.Equal(first, []uint16{1, 2, 3, 4, 5, 6}) || !slices.Equal(last, []uint16{7, 8, 9, 10, 11, 12}) {
		t.Error(first, last)
	}
	images(t, func(m *Image, width, height, channels, most int, l []uint16) {
		for _, y := range beyond(height) {
			if y < 0 || y >= height {
				if row := m.Row(y); len(row) != 0 {
					t.Errorf("%d by %d by %d, row %d: %d", width, height, channels, y, row)
				}
			}
		}
	})
}

// P9.2: all samples, of one sample, of one row, of one column, of three channels.
func TestSamples(t *testing.T) {
	for _, c := range []struct {
		width, height, channels int
		l                       []uint16
	}{
		{1, 1, 1, []uint16{7}}, {1, 1, 1, []uint16{0}}, {5, 1, 1, []uint16{5, 4, 3, 2, 1}}, {1, 5, 1, []uint16{5, 4, 3, 2, 1}}, {1, 1, 3, []uint16{9, 0, 8}}, {2, 1, 3, []uint16{6, 5, 4, 3, 2, 1}}, {1, 2, 3, []uint16{6, 5, 4, 3, 2, 1}}, {2, 2, 3, []uint16{1, 3, 5, 7, 9, 2, 4, 6, 8, 0, 1, 0}},
	} {
		if got := of(t, c.width, c.height, c.channels, 9, c.l).Samples(); !slices.Equal(got, c.l) {
			t.Errorf("%d by %d by %d: %d, not %d", c.width, c.height, c.channels, got, c.l)
		}
	}
}

// P9.2: an image apart, with what was set; sets to either one don't show in the other.
func TestCopy(t *testing.T) {
	images(t, func(m *Image, width, height, channels, most int, l []uint16) {
		l = slices.Clone(l)
		l[0] = 0
		m.Set(0, 0, 0, 0)
		n := m.Copy()
		if n == m {
			t.Fatal("itself")
		}
		checkImage(t, n, width, height, channels, most, l)

		x, y, c := width-1, height-1, channels-1
		other := slices.Clone(l)
		other[len(l)-1] = uint16(most) - other[len(l)-1]
		if !n.Set(x, y, c, other[len(l)-1]) {
			t.Fatal("not set in the copy")
		}
		checkImage(t, n, width, height, channels, most, other)
		checkImage(t, m, width, height, channels, most, l)

		l[0] = uint16(most)
		if !m.Set(0, 0, 0, uint16(most)) {
			t.Fatal("not set in the one that was copied")
		}
		checkImage(t, m, width, height, channels, most, l)
		checkImage(t, n, width, height, channels, most, other)
		if n.Set(0, 0, 0, uint16(most)) && most < 65535 && n.Set(0, 0, 0, uint16(most+1)) {
			t.Error("the copy has another greatest sample")
		}
	})
}

// P9.2: unlike in one thing alone, or in how as many samples stand.
func TestSame(t *testing.T) {
	l := []uint16{1, 2, 3, 4, 5, 6, 7, 8, 9, 10, 11, 12}
	m := of(t, 2, 2, 3, 99, l)
	if !m.Same(m) || !m.Same(m.Copy()) || !m.Copy().Same(m) || !m.Same(of(t, 2, 2, 3, 99, l)) {
		t.Error("the same ones")
	}
	others := []*Image{of(t, 2, 2, 3, 98, l), of(t, 2, 2, 3, 100, l), of(t, 2, 2, 3, 65535, l), of(t, 2, 2, 1, 99, l[:4]), of(t, 2, 1, 3, 99, l[:6]), of(t, 1, 2, 3, 99, l[:6]), of(t, 4, 1, 3, 99, l), of(t, 1, 4, 3, 99, l), of(t, 4, 3, 1, 99, l), of(t, 3, 4, 1, 99, l), of(t, 6, 2, 1, 99, l), of(t, 2, 6, 1, 99, l), of(t, 12, 1, 1, 99, l), of(t, 1, 12, 1, 99, l)}
	for k := range l {
		x := slices.Clone(l)
		x[k] = 99
		others = append(others, of(t, 2, 2, 3, 99, x))
	}
	for i, n := range others {
		if m.Same(n) || n.Same(m) || !n.Same(n.Copy()) {
			t.Errorf("image %d of the unlike ones", i)
		}
		for j, o := range others {
			if n.Same(o) != (i == j) {
				t.Errorf("images %d and %d of the unlike ones", i, j)
			}
		}
	}
}

// P9.2: of noughts, which no sample tells apart.
func TestSameOfNoughts(t *testing.T) {
	type shape struct{ width, height, channels, most int }
	var shapes []shape
	for _, most := range []int{1, 2, 65535} {
		for _, c := range [][3]int{{1, 1, 1}, {2, 1, 1}, {3, 1, 1}, {1, 2, 1}, {1, 3, 1}, {1, 1, 3}, {2, 1, 3}, {1, 2, 3}, {2, 3, 1}, {3, 2, 1}, {6, 1, 1}, {1, 6, 1}} {
			shapes = append(shapes, shape{c[0], c[1], c[2], most})
		}
	}
	for _, a := range shapes {
		m, _ := New(a.width, a.height, a.channels, a.most)
		for _, b := range shapes {
			n, _ := New(b.width, b.height, b.channels, b.most)
			if m.Same(n) != (a == b) {
				t.Error(a, b)
			}
		}
	}
}

// P9.2: Same goes by what was set.
func TestSameOfSet(t *testing.T) {
	m := of(t, 2, 2, 1, 9, []uint16{1, 2, 3, 4})
	n := m.Copy()
	m.Set(1, 1, 0, 9)
	if m.Same(n) || n.Same(m) {
		t.Error("one was set")
	}
	n.Set(1, 1, 0, 9)
	if !m.Same(n) || !n.Same(m) {
		t.Error("both were set")
	}
	n.Set(1, 1, 0, 4)
	if m.Same(n) || !n.Same(of(t, 2, 2, 1, 9, []uint16{1, 2, 3, 4})) {
		t.Error("one was set back")
	}
}

// P9.2, P9.3: two nils are the same, a nil and another one aren't.
func TestSameOfNil(t *testing.T) {
	var none *Image
	m, _ := New(1, 1, 1, 1)
	if !none.Same(nil) || none.Same(m) || m.Same(nil) || m.Same(none) {
		t.Error("nil")
	}
	refused, _ := New(0, 1, 1, 1)
	if !refused.Same(none) || refused.Same(m) || m.Same(refused) {
		t.Error("the image beside a code")
	}
}

// P9.3: samples that are handed in stay as they were, their spare room too, and aren't kept.
func TestSamplesStay(t *testing.T) {
	for _, c := range []struct {
		width, height, channels, most int
		l                             []uint16
	}{
		{2, 2, 1, 9, []uint16{1, 2, 3, 9}}, {1, 1, 1, 9, []uint16{4}}, {1, 2, 3, 65535, []uint16{1, 2, 3, 4, 5, 65535}},
		{2, 2, 1, 9, []uint16{1, 2, 3}}, {2, 2, 1, 9, []uint16{1, 2, 3, 4, 5}}, {2, 2, 1, 9, []uint16{1, 2, 3, 10}}, {0, 1, 1, 9, []uint16{1}}, {1, 1, 2, 9, []uint16{1, 2}}, {1, 1, 1, 0, []uint16{1}}, {1, 1, 1, 9, nil},
	} {
		room := append(slices.Clone(c.l), 71, 72, 73)
		kept := slices.Clone(room)
		m, e := Of(c.width, c.height, c.channels, c.most, room[:len(c.l)])
		if m != nil {
			m.Set(0, 0, 0, 0)
			m.Set(0, 0, 0, c.l[0])
			m.Set(c.width-1, c.height-1, c.channels-1, 0)
			m.Copy().Set(0, 0, 0, 8)
		}
		if !slices.Equal(room, kept) {
			t.Errorf("what was handed in: %d, not %d", room, kept)
		}
		for i := range room {
			room[i] = 77
		}
		if e != api.OK {
			continue
		}
		c.l[len(c.l)-1] = 0
		checkImage(t, m, c.width, c.height, c.channels, c.most, c.l)
	}
}

// scrawl writes over a list, and over its spare room.
func scrawl(l []uint16) {
	_ = append(l, 78)
	for i := range l[:cap(l)] {
		l[:cap(l)][i] = 79
	}
}

// P9.3: an image stays as it was when what it answered is written over, spare room too; so does its copy.
func TestAnswersAreNew(t *testing.T) {
	images(t, func(m *Image, width, height, channels, most int, l []uint16) {
		n := m.Copy()
		for y := range height {
			scrawl(m.Row(y))
		}
		scrawl(m.Samples())
		checkImage(t, m, width, height, channels, most, l)
		scrawl(n.Samples())
		checkImage(t, n, width, height, channels, most, l)
		checkImage(t, m, width, height, channels, most, l)

		row, all := m.Row(0), m.Samples()
		first := row[0]
		m.Set(0, 0, 0, 0)
		if row[0] != first || all[0] != first {
			t.Errorf("%d by %d by %d: a set shows in an earlier answer", width, height, channels)
		}
	})
}

// P9.3: images of the same arguments have nothing in common.
func TestImagesAreNew(t *testing.T) {
	a, _ := New(2, 1, 1, 9)
	b, _ := New(2, 1, 1, 9)
	a.Set(0, 0, 0, 5)
	checkImage(t, b, 2, 1, 1, 9, []uint16{0, 0})
	checkImage(t, a, 2, 1, 1, 9, []uint16{5, 0})
	l := []uint16{1, 2}
	c, d := of(t, 2, 1, 1, 9, l), of(t, 2, 1, 1, 9, l)
	c.Set(1, 0, 0, 6)
	checkImage(t, c, 2, 1, 1, 9, []uint16{1, 6})
	checkImage(t, d, 2, 1, 1, 9, []uint16{1, 2})
}
