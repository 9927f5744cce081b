package raw

import (
	"math"
	"math/big"
	"slices"
	"testing"

	"smalto/api"
	"smalto/sinc"
)

const (
	least    = math.MinInt64
	greatest = math.MaxInt64
	side     = api.MaxSide
	unit     = api.Unit
	keyest   = 1 << 18 // the greatest q of Keys
)

var filtersOfAll = []Filter{Box, Cubic, Lanczos}

func ratio(a, b int64) *big.Rat { return big.NewRat(a, b) }

// nearest: the number nearest to a fraction: a half more, downwards.
func nearest(x *big.Rat) int64 {
	y := new(big.Rat).Add(x, ratio(1, 2))
	return new(big.Int).Div(y.Num(), y.Denom()).Int64()
}

func lesser(a, b *big.Rat) *big.Rat {
	if a.Cmp(b) < 0 {
		return a
	}
	return b
}

func greater(a, b *big.Rat) *big.Rat {
	if a.Cmp(b) > 0 {
		return a
	}
	return b
}

// toldPart: of the stretch from i n / m to (i + 1) n / m what is between j and j + 1, divided by n / m; 0, if it is nothing.
func toldPart(n, m, i, j int64) *big.Rat {
	start := ratio(j, 1)
	from := greater(ratio(i*n, m), start)
	to := lesser(ratio((i+1)*n, m), new(big.Rat).Add(start, ratio(1, 1)))
	part := new(big.Rat).Sub(to, from)
	if part.Sign() <= 0 {
		return new(big.Rat)
	}
	return part.Quo(part, ratio(n, m))
}

// toldX: (2 m j - (2i + 1) n + m) / (2 times the greater one of n and m).
func toldX(n, m, i, j int64) *big.Rat {
	x := new(big.Rat).Mul(ratio(2*m, 1), ratio(j, 1))
	x.Add(x, ratio(m-(2*i+1)*n, 1))
	return x.Quo(x, ratio(2*max(n, m), 1))
}

// toldKeys: the chapter's words of x, over fractions.
func toldKeys(x *big.Rat) int64 {
	x = new(big.Rat).Abs(x)
	second := new(big.Rat).Mul(x, x)
	third := new(big.Rat).Mul(second, x)
	sum := new(big.Rat)
	add := func(a *big.Rat, n, d int64) { sum.Add(sum, new(big.Rat).Mul(a, ratio(n, d))) }
	one := ratio(1, 1)
	switch {
	case x.Cmp(one) < 0:
		add(third, 3, 2)
		add(second, -5, 2)
		add(one, 1, 1)
	case x.Cmp(ratio(2, 1)) < 0:
		add(second, 5, 2)
		add(third, -1, 2)
		add(x, -4, 1)
		add(one, 2, 1)
	}
	return nearest(sum.Mul(sum, ratio(unit, 1)))
}

// toldIn: is j in the window, of a side and a filter that there are?
func toldIn(f Filter, n, m, i, j int64) bool {
	if f == Box {
		return toldPart(n, m, i, j).Sign() > 0
	}
	ends := map[Filter]int64{Cubic: 2, Lanczos: 3}
	return new(big.Rat).Abs(toldX(n, m, i, j)).Cmp(ratio(ends[f], 1)) < 0
}

// toldWeight: of a side and a filter that there are.
func toldWeight(f Filter, n, m, i, j int64) int64 {
	if !toldIn(f, n, m, i, j) {
		return 0
	}
	switch f {
	case Box:
		x := toldPart(n, m, i, j)
		return nearest(x.Mul(x, ratio(unit, 1)))
	case Cubic:
		return toldKeys(toldX(n, m, i, j))
	}
	x := toldX(n, m, i, j)
	return sinc.Lanczos(x.Num().Int64(), x.Denom().Int64())
}

// some: of m output samples the first and last ones, and some in between.
func some(m int64) []int64 {
	var l []int64
	for _, i := range []int64{0, 1, 2, m / 7, m / 3, m/2 - 1, m / 2, m - 3, m - 2, m - 1} {
		if i >= 0 && i < m && !slices.Contains(l, i) {
			l = append(l, i)
		}
	}
	return l
}

// lengths: small ones, powers of 2 with those beside them, and the greatest ones.
func lengths() []int64 {
	return []int64{1, 2, 3, 4, 5, 6, 7, 8, 9, 10, 12, 13, 15, 16, 17, 31, 100, 511, 512, 513, 1000, 1024, 4097, 32767, 32768, 32769, side - 1, side}
}

// every hands each filter, two lengths and some output samples to a test, until it finds a fault.
func every(t *testing.T, ok func(f Filter, n, m, i int64) bool) {
	t.Helper()
	for _, f := range filtersOfAll {
		for _, n := range lengths() {
			for _, m := range lengths() {
				for _, i := range some(m) {
					if !ok(f, n, m, i) {
						t.Fatalf("%d, of %d to %d, of %d", f, n, m, i)
					}
				}
			}
		}
	}
}

// wrong: arguments of which there is no window.
func wrong() [][4]int64 {
	var l [][4]int64
	for _, f := range []int64{0, 1, 2} {
		for _, n := range []int64{0, -1, -4, -side, side + 1, 1 << 17, 1<<32 + 4, 1 << 62, greatest, least, least + 4} {
			l = append(l, [4]int64{f, n, 4, 1}, [4]int64{f, 4, n, 1}, [4]int64{f, n, n, 0}, [4]int64{f, n, side, 0}, [4]int64{f, n, 1, 0}, [4]int64{f, 1, n, 0}, [4]int64{f, n, n, n})
		}
		for _, i := range []int64{-1, -2, 4, 5, 8, -1 << 32, 1 << 32, 1<<32 + 1, 1 << 62, 1<<62 + 1, -1 << 62, greatest, greatest - 1, least, least + 1} {
			l = append(l, [4]int64{f, 4, 4, i}, [4]int64{f, 3, 4, i}, [4]int64{f, side, 4, i})
		}
		l = append(l, [4]int64{f, 1, 1, 1}, [4]int64{f, 1, 1, -1}, [4]int64{f, 1, side, side}, [4]int64{f, side, side, side}, [4]int64{f, side, side, -1})
	}
	for _, f := range []int64{-1, -2, -3, 3, 4, 5, 1 << 32, 1<<32 + 1, -1 << 32, greatest, least} {
		l = append(l, [4]int64{f, 4, 4, 1}, [4]int64{f, 4, 2, 0}, [4]int64{f, 1, 1, 0}, [4]int64{f, side, side, side - 1}, [4]int64{f, 0, 0, 0})
	}
	return l
}

// P5.1: the least j, and how many there are.
func TestWindow(t *testing.T) {
	for _, c := range []struct {
		f          Filter
		n, m, i, j int64
		count      int
	}{
		// Larger to smaller.
		{Box, 4, 2, 0, 0, 2}, {Box, 4, 2, 1, 2, 2}, {Box, 3, 2, 0, 0, 2}, {Box, 3, 2, 1, 1, 2}, {Box, 5, 3, 1, 1, 3}, {Box, 5, 3, 2, 3, 2}, {Box, side, 1, 0, 0, side}, {Box, side, 2, 1, side / 2, side / 2},
		{Cubic, 4, 2, 0, -3, 8}, {Cubic, 4, 2, 1, -1, 8}, {Cubic, 3, 2, 0, -2, 6}, {Cubic, 3, 2, 1, -1, 6}, {Cubic, 9, 3, 1, -1, 11}, {Cubic, side, 1, 0, -3 * side / 2, 4 * side},
		{Lanczos, 9, 3, 1, -4, 17}, {Lanczos, 4, 2, 0, -5, 12}, {Lanczos, side, 1, 0, -5 * side / 2, 6 * side}, {Lanczos, side, side - 1, side - 2, side - 4, 7},
		// Smaller to larger.
		{Box, 2, 4, 0, 0, 1}, {Box, 2, 4, 3, 1, 1}, {Box, 2, 3, 0, 0, 1}, {Box, 2, 3, 1, 0, 2}, {Box, 2, 3, 2, 1, 1}, {Box, 1, side, 0, 0, 1}, {Box, 1, side, side - 1, 0, 1}, {Box, side - 1, side, 5, 4, 2},
		{Cubic, 4, 8, 0, -2, 4}, {Cubic, 4, 8, 7, 2, 4}, {Cubic, 1, 3, 1, -1, 3}, {Cubic, 1, side, 0, -2, 4}, {Cubic, 1, side, side - 1, -1, 4},
		{Lanczos, 4, 8, 0, -3, 6}, {Lanczos, 1, 3, 1, -2, 5}, {Lanczos, 1, side, side - 1, -2, 6},
		// n the same as m.
		{Box, 1, 1, 0, 0, 1}, {Box, 4, 4, 3, 3, 1}, {Box, side, side, side - 1, side - 1, 1}, {Cubic, 4, 4, 0, -1, 3}, {Cubic, 4, 4, 1, 0, 3}, {Cubic, 1, 1, 0, -1, 3}, {Cubic, side, side, side - 1, side - 2, 3}, {Lanczos, 4, 4, 0, -2, 5}, {Lanczos, 1, 1, 0, -2, 5}, {Lanczos, side, side, side - 1, side - 3, 5},
	} {
		if first, count := Window(c.f, c.n, c.m, c.i); first != c.j || count != c.count {
			t.Errorf("%d, of %d to %d, of %d: %d, %d", c.f, c.n, c.m, c.i, first, count)
		}
	}
	every(t, func(f Filter, n, m, i int64) bool {
		first, count := Window(f, n, m, i)
		last := first + int64(count) - 1
		return count >= 1 && toldIn(f, n, m, i, first) && toldIn(f, n, m, i, last) && !toldIn(f, n, m, i, first-1) && !toldIn(f, n, m, i, last+1)
	})
	for _, c := range wrong() {
		if first, count := Window(Filter(c[0]), c[1], c[2], c[3]); first != 0 || count != 0 {
			t.Errorf("of %v: %d, %d", c, first, count)
		}
	}
}

// P5.1: of all small sides, the window is just the j that the chapter tells.
func TestSmallWindows(t *testing.T) {
	for _, f := range filtersOfAll {
		for n := int64(1); n <= 7; n++ {
			for m := int64(1); m <= 7; m++ {
				for i := int64(0); i < m; i++ {
					first, count := Window(f, n, m, i)
					for j := int64(-35); j <= 35; j++ {
						if in := j >= first && j < first+int64(count); in != toldIn(f, n, m, i, j) {
							t.Fatalf("%d, of %d to %d, of %d and %d: %v", f, n, m, i, j, in)
						}
					}
				}
			}
		}
	}
}

// P5.1: the raw weight of j, and 0 of one that isn't in the window.
func TestWeight(t *testing.T) {
	for _, c := range []struct {
		f                Filter
		n, m, i, j, want int64
	}{
		// Larger to smaller.
		{Box, 4, 2, 1, 2, unit / 2}, {Box, 4, 2, 1, 3, unit / 2}, {Box, 3, 2, 0, 0, 715827883}, {Box, 3, 2, 0, 1, 357913941}, {Box, 3, 2, 1, 1, 357913941}, {Box, 3, 2, 1, 2, 715827883}, {Box, 5, 3, 1, 1, 214748365}, {Box, 5, 3, 1, 2, 644245094}, {Box, side, 1, 0, side - 1, 1 << 14}, {Box, side - 1, 1, 0, 0, 16384},
		{Cubic, 4, 2, 0, 0, 931135488}, {Cubic, 4, 2, 0, 2, 243269632}, {Cubic, 4, 2, 0, 3, -75497472}, {Lanczos, 4, 2, 0, 0, 955702220}, {Lanczos, 4, 2, 0, 1, 955702220}, {Lanczos, 4, 2, 0, 3, -142669170},
		// Smaller to larger.
		{Box, 2, 3, 1, 0, unit / 2}, {Box, 2, 3, 1, 1, unit / 2}, {Box, 2, 4, 3, 1, unit}, {Cubic, 1, 3, 1, 0, unit}, {Cubic, 1, 3, 0, 0, 835132530}, {Lanczos, 1, 2, 0, 0, 955702220}, {Lanczos, 1, 3, 0, 0, 870053994},
		// n the same as m.
		{Box, 4, 4, 2, 2, unit}, {Cubic, 4, 4, 2, 2, unit}, {Cubic, 4, 4, 2, 3, 0}, {Lanczos, 4, 4, 2, 2, unit}, {Lanczos, 4, 4, 2, 1, 0},
		// Where no source sample is.
		{Cubic, 4, 8, 0, -1, 243269632}, {Cubic, 4, 8, 0, -2, -25165824}, {Cubic, 4, 8, 7, 5, -25165824}, {Lanczos, 4, 8, 0, -1, 290114113}, {Lanczos, 4, 8, 0, -3, 7898365}, {Lanczos, 4, 8, 7, 6, 7898365}, {Box, 4, 8, 0, -1, 0}, {Box, 4, 2, 1, 4, 0},
		// Just outside of the window.
		{Box, 4, 2, 1, 1, 0}, {Box, 2, 3, 0, 1, 0}, {Cubic, 4, 8, 0, -3, 0}, {Cubic, 4, 8, 0, 2, 0}, {Lanczos, 4, 8, 0, -4, 0}, {Lanczos, 4, 8, 0, 3, 0}, {Cubic, 4, 4, 1, 3, 0}, {Cubic, 4, 4, 1, -1, 0},
		// A j so great that the products of it go over.
		{Box, 4, 2, 1, least, 0}, {Box, 4, 2, 1, greatest, 0}, {Cubic, 4, 4, 1, least, 0}, {Cubic, 4, 4, 1, greatest, 0}, {Lanczos, 4, 4, 1, least, 0}, {Lanczos, 4, 4, 1, greatest, 0},
		{Box, 4, 2, 1, 1<<62 + 2, 0}, {Box, 1, 1, 0, least, 0}, {Cubic, 4, 2, 0, 1 << 62, 0}, {Cubic, 4, 2, 0, -1 << 62, 0}, {Cubic, 1, 1, 0, least, 0}, {Lanczos, 4, 2, 0, 1 << 62, 0}, {Lanczos, 1, 1, 0, least, 0}, {Lanczos, side, side, 0, 1 << 47, 0}, {Cubic, side, side, 0, -1 << 47, 0}, {Cubic, 4, 4, 1, 1<<32 + 1, 0},
	} {
		if got := Weight(c.f, c.n, c.m, c.i, c.j); got != c.want {
			t.Errorf("%d, of %d to %d, of %d and %d: %d, not %d", c.f, c.n, c.m, c.i, c.j, got, c.want)
		}
	}
	every(t, func(f Filter, n, m, i int64) bool {
		first, count := Window(f, n, m, i)
		for _, j := range around(first, int64(count)) {
			if got, want := Weight(f, n, m, i, j), toldWeight(f, n, m, i, j); got != want {
				t.Errorf("of %d: %d, not %d", j, got, want)
				return false
			}
		}
		return true
	})
	for _, c := range wrong() {
		for _, j := range []int64{0, 1, 2, 3, -1, c[3], least, greatest} {
			if got := Weight(Filter(c[0]), c[1], c[2], c[3], j); got != 0 {
				t.Errorf("of %v and %d: %d", c, j, got)
			}
		}
	}
}

// around: a window's edges, to either side of them, and some in between.
func around(first, count int64) []int64 {
	l := []int64{least, least + 1, -1 << 62, 1 << 62, greatest - 1, greatest}
	for k := int64(-3); k <= 3; k++ {
		l = append(l, first+k, first+count/2+k, first+count-1+k)
	}
	for k := int64(0); k < count; k += 1 + count/17 {
		l = append(l, first+k)
	}
	return l
}

// P5.1: the window's least j, and all its weights, in order.
func TestRow(t *testing.T) {
	for _, c := range []struct {
		f       Filter
		n, m, i int64
		first   int64
		want    []int64
	}{
		{Box, 4, 2, 1, 2, []int64{unit / 2, unit / 2}},
		{Box, 3, 2, 0, 0, []int64{715827883, 357913941}},
		{Box, 3, 2, 1, 1, []int64{357913941, 715827883}},
		{Box, 3, 1, 0, 0, []int64{357913941, 357913941, 357913941}},
		{Box, 2, 4, 3, 1, []int64{unit}},
		{Cubic, 4, 4, 1, 0, []int64{0, unit, 0}},
		{Cubic, 1, 1, 0, -1, []int64{0, unit, 0}},
		{Cubic, 2, 4, 0, -2, []int64{-25165824, 243269632, 931135488, -75497472}},
		{Lanczos, 4, 4, 1, -1, []int64{0, 0, unit, 0, 0}},
	} {
		if first, l := Row(c.f, c.n, c.m, c.i); first != c.first || !slices.Equal(l, c.want) {
			t.Errorf("%d, of %d to %d, of %d: %d, %d", c.f, c.n, c.m, c.i, first, l)
		}
	}
	every(t, func(f Filter, n, m, i int64) bool {
		// The longest windows are gone over once each, below.
		if n > 5000 && m < 1000 {
			return true
		}
		return whole(f, n, m, i)
	})
	for _, f := range filtersOfAll {
		if !whole(f, side, 1, 0) {
			t.Errorf("%d, of %d to 1", f, side)
		}
	}
	for _, c := range wrong() {
		if first, l := Row(Filter(c[0]), c[1], c[2], c[3]); first != 0 || len(l) != 0 {
			t.Errorf("of %v: %d, %d", c, first, l)
		}
	}
}

// whole: is a Row just its Window, each with its Weight?
func whole(f Filter, n, m, i int64) bool {
	first, l := Row(f, n, m, i)
	start, count := Window(f, n, m, i)
	if first != start || len(l) != count {
		return false
	}
	for k, w := range l {
		if w != Weight(f, n, m, i, first+int64(k)) {
			return false
		}
	}
	return true
}

// P5.1: the filters' numbers and names.
func TestName(t *testing.T) {
	if Box != 0 || Cubic != 1 || Lanczos != 2 {
		t.Error(Box, Cubic, Lanczos)
	}
	for _, c := range []struct {
		f    Filter
		want string
	}{
		{Box, "box"}, {Cubic, "cubic"}, {Lanczos, "lanczos"},
		{-1, ""}, {3, ""}, {4, ""}, {-2, ""}, {-3, ""}, {1 << 32, ""}, {1<<32 + 1, ""}, {math.MaxInt, ""}, {math.MinInt, ""},
	} {
		if got := Name(c.f); got != c.want {
			t.Errorf("of %d: %q", c.f, got)
		}
	}
}

// P5.2: Cubic's raw weight of p over q; 0 of a q that isn't from 1 to 2^18.
func TestKeys(t *testing.T) {
	for _, c := range []struct{ p, q, want int64 }{
		{0, 1, unit}, {1, 2, 603979776}, {-1, 2, 603979776}, {3, 2, -67108864}, {-3, 2, -67108864}, {1, 3, 835132530}, {5, 3, -39768216}, {1, 4, 931135488}, {7, 4, -25165824},
		// 1, 2, and just beside them, to either side.
		{1, 1, 0}, {-1, 1, 0}, {2, 1, 0}, {-2, 1, 0}, {3, 1, 0}, {-3, 1, 0}, {5, 2, 0}, {-5, 2, 0},
		{keyest, keyest, 0}, {-keyest, keyest, 0}, {keyest - 1, keyest, 2048}, {1 - keyest, keyest, 2048}, {keyest + 1, keyest, -2048}, {-1 - keyest, keyest, -2048},
		{2 * keyest, keyest, 0}, {-2 * keyest, keyest, 0}, {2*keyest - 1, keyest, 0}, {2*keyest + 1, keyest, 0}, {2*keyest - 100, keyest, -78}, {100 - 2*keyest, keyest, -78}, {2*keyest + 100, keyest, 0}, {-100 - 2*keyest, keyest, 0},
		// q of 1, 2^18 and beside them.
		{0, keyest - 1, unit}, {0, keyest, unit}, {0, keyest + 1, 0}, {keyest / 2, keyest, 603979776}, {1, keyest, unit}, {1000, keyest, 1073702851}, {0, 0, 0}, {0, -1, 0}, {0, -2, 0}, {1, 0, 0}, {-1, 0, 0}, {1, -2, 0}, {-1, -2, 0}, {1 << 18, 1 << 19, 0}, {0, 1<<32 + 1, 0}, {1, 1<<32 + 2, 0},
		// The ends.
		{least, 1, 0}, {greatest, 1, 0}, {least + 1, 2, 0}, {least, keyest, 0}, {greatest, keyest, 0}, {1 << 32, 1, 0}, {-1 << 32, 2, 0}, {1<<32 + 1, 2, 0}, {0, least, 0}, {0, greatest, 0}, {least, least, 0}, {greatest, greatest, 0}, {least, greatest, 0}, {greatest, least, 0}, {least, 0, 0}, {1, greatest, 0},
	} {
		if got := Keys(c.p, c.q); got != c.want {
			t.Errorf("of %d over %d: %d, not %d", c.p, c.q, got, c.want)
		}
	}
	for _, q := range []int64{1, 2, 3, 4, 5, 6, 7, 10, 12, 31, 32, 33, 100, 1000, 1023, 1025, 2048, 3072, 4097, 1 << 16, 1<<17 - 1, 1 << 17, 1<<17 + 1, 200000, keyest - 1, keyest} {
		for p := -3 * q; p <= 3*q; p += 1 + q/301 {
			checkKeys(t, p, q)
		}
		for _, k := range []int64{0, 1, 2} {
			for p := k*q - 4; p <= k*q+4; p++ {
				checkKeys(t, p, q)
				checkKeys(t, -p, q)
			}
		}
	}
}

func checkKeys(t *testing.T, p, q int64) {
	t.Helper()
	if got, want := Keys(p, q), toldKeys(ratio(p, q)); got != want {
		t.Fatalf("of %d over %d: %d, not %d", p, q, got, want)
	}
}

// P5.2, P5.3: an odd p over 2^10 has halves between two numbers, above 0 and below, and so have some below 1 over 3 times 2^10: the greater one is told.
func TestHalves(t *testing.T) {
	for _, c := range []struct{ p, q, want int64 }{
		{1, 1024, 1073739266}, {-1, 1024, 1073739266}, {1023, 1024, 526335}, {1025, 1024, -523264}, {-1025, 1024, -523264}, {1535, 1024, -67239679}, {2047, 1024, -511}, {-2047, 1024, -511}, {3, 3072, 1073739266}, {256 * 1025, keyest, -523264},
		{17, 3072, 1073659893}, {-17, 3072, 1073659893}, {35, 3072, 1073395762}, {3059, 3072, 2310250}, {-3059, 3072, 2310250},
	} {
		if got := Keys(c.p, c.q); got != c.want {
			t.Errorf("of %d over %d: %d, not %d", c.p, c.q, got, c.want)
		}
	}
	for p := int64(-2049); p <= 2049; p += 2 {
		checkKeys(t, p, 1024)
	}
	for p := int64(-6143); p <= 6143; p += 2 {
		checkKeys(t, p, 3072)
	}
	// Each x of this row is an odd number over 1024.
	first, l := Row(Cubic, 512, 1, 0)
	for k := range l {
		p := 2*(first+int64(k)) - 511
		if l[k] != Keys(p, 1024) || l[k] != toldKeys(ratio(p, 1024)) {
			t.Fatalf("of %d over 1024: %d", p, l[k])
		}
	}
	if len(l) != 2048 {
		t.Error(len(l))
	}
}

// P5.1: from both ends of a side the weights are the same.
func TestEnds(t *testing.T) {
	every(t, func(f Filter, n, m, i int64) bool {
		a, count := Window(f, n, m, i)
		b, others := Window(f, n, m, m-1-i)
		if count != others || a+int64(count)-1 != n-1-b {
			return false
		}
		for _, j := range around(a, int64(count)) {
			if j < a-3 || j > a+int64(count)+3 {
				continue
			}
			if Weight(f, n, m, i, j) != Weight(f, n, m, m-1-i, n-1-j) {
				return false
			}
		}
		return true
	})
}

// P5.3: Box's weights come to 2^30, but for as many as they are; all of them are above 0.
func TestBoxSums(t *testing.T) {
	check := func(n, m, i int64) {
		_, l := Row(Box, n, m, i)
		sum := int64(0)
		for _, w := range l {
			if w <= 0 {
				t.Fatalf("of %d to %d, of %d: %d", n, m, i, w)
			}
			sum += w
		}
		if off := sum - unit; off > int64(len(l)) || off < -int64(len(l)) {
			t.Fatalf("of %d to %d, of %d: %d of %d", n, m, i, sum, len(l))
		}
	}
	for n := int64(1); n <= 40; n++ {
		for m := int64(1); m <= 40; m++ {
			for i := int64(0); i < m; i++ {
				check(n, m, i)
			}
		}
	}
	for _, n := range lengths() {
		for _, m := range lengths() {
			for _, i := range some(m) {
				check(n, m, i)
			}
		}
	}
}

// P5.3: Box's and Cubic's weights are just the nearest ones: of all small sides, all of them.
func TestNearest(t *testing.T) {
	for _, f := range []Filter{Box, Cubic} {
		for n := int64(1); n <= 12; n++ {
			for m := int64(1); m <= 12; m++ {
				for i := int64(0); i < m; i++ {
					first, l := Row(f, n, m, i)
					for k, w := range l {
						if want := toldWeight(f, n, m, i, first+int64(k)); w != want {
							t.Fatalf("%d, of %d to %d, of %d and %d: %d, not %d", f, n, m, i, first+int64(k), w, want)
						}
					}
				}
			}
		}
	}
}

// P5.3: an answer is new memory: what is done to one, its spare room too, isn't seen in another.
func TestNewMemory(t *testing.T) {
	for _, f := range filtersOfAll {
		_, a := Row(f, 9, 4, 2)
		want := slices.Clone(a)
		_, b := Row(f, 9, 4, 2)
		for k := range a[:cap(a)] {
			a[:cap(a)][k] = -7
		}
		_, c := Row(f, 9, 4, 2)
		if !slices.Equal(b, want) || !slices.Equal(c, want) {
			t.Errorf("%d: %d and %d, not %d", f, b, c, want)
		}
	}
}
