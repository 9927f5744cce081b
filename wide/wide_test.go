package wide

import (
	"math"
	"math/big"
	"testing"
)

const (
	least    = math.MinInt64
	greatest = math.MaxInt64
	full     = math.MaxUint64
)

var (
	bigLeast    = big.NewInt(least)
	bigGreatest = big.NewInt(greatest)
	round       = new(big.Int).Lsh(big.NewInt(1), 128)
)

// numbers: small ones, powers of 2 with those beside them, and both ends.
func numbers() []int64 {
	l := []int64{least, least + 1, least + 2, greatest - 2, greatest - 1, greatest, 1000003, -1000003, greatest / 3, least / 3}
	for x := int64(-9); x <= 9; x++ {
		l = append(l, x)
	}
	for _, k := range []int{4, 7, 16, 30, 31, 32, 33, 40, 47, 61, 62} {
		p := int64(1) << k
		l = append(l, p-1, p, p+1, -p-1, -p, -p+1)
	}
	return l
}

// longs: each of a few high halves with each of a few low ones.
func longs() []Long {
	var l []Long
	for _, high := range []int64{least, least + 1, -1 << 32, -2, -1, 0, 1, 2, 1 << 32, greatest - 1, greatest} {
		for _, low := range []uint64{0, 1, 2, 1<<32 - 1, 1 << 32, 1<<63 - 1, 1 << 63, 1<<63 + 1, full - 1, full} {
			l = append(l, Long{high, low})
		}
	}
	return l
}

// exact: High times 2^64, and Low, as the chapter has it.
func exact(a Long) *big.Int {
	x := new(big.Int).Lsh(big.NewInt(a.High), 64)
	return x.Add(x, new(big.Int).SetUint64(a.Low))
}

// rounds: x, gone round at 2^128, to where long numbers are.
func rounds(x *big.Int) *big.Int {
	half := new(big.Int).Rsh(round, 1)
	y := new(big.Int).Add(x, half)
	y.Mod(y, round)
	return y.Sub(y, half)
}

func held(x *big.Int) int64 {
	if x.Cmp(bigLeast) < 0 {
		return least
	}
	if x.Cmp(bigGreatest) > 0 {
		return greatest
	}
	return x.Int64()
}

// nearest: to a divided by b: twice a, and b, divided by twice b, downwards: so a half goes up.
func nearest(a, b *big.Int) *big.Int {
	x, y := new(big.Int).Set(a), new(big.Int).Set(b)
	if y.Sign() < 0 {
		x.Neg(x)
		y.Neg(y)
	}
	x.Lsh(x, 1)
	x.Add(x, y)
	// big's Div goes downwards, where the divisor is above 0.
	return x.Div(x, y.Lsh(y, 1))
}

func bigProduct(a, b int64) *big.Int {
	return new(big.Int).Mul(big.NewInt(a), big.NewInt(b))
}

// P2.1: a number as a long one.
func TestOf(t *testing.T) {
	for _, c := range []struct {
		x    int64
		want Long
	}{
		{0, Long{0, 0}}, {1, Long{0, 1}}, {5, Long{0, 5}}, {greatest, Long{0, 1<<63 - 1}},
		// Below 0.
		{-1, Long{-1, full}}, {-2, Long{-1, full - 1}}, {-5, Long{-1, full - 4}}, {least, Long{-1, 1 << 63}},
	} {
		if got := Of(c.x); got != c.want {
			t.Errorf("of %d: %v, not %v", c.x, got, c.want)
		}
	}
	for _, x := range numbers() {
		if exact(Of(x)).Cmp(big.NewInt(x)) != 0 {
			t.Errorf("of %d: %v", x, Of(x))
		}
	}
}

// P2.1: the product, exactly.
func TestProduct(t *testing.T) {
	for _, c := range []struct {
		a, b int64
		want Long
	}{
		{2, 3, Long{0, 6}}, {0, 0, Long{}}, {0, -7, Long{}}, {-7, 0, Long{}}, {0, least, Long{}}, {-1, -1, Long{0, 1}},
		// Below 0.
		{-1, 1, Long{-1, full}}, {1, -1, Long{-1, full}}, {-3, 5, Long{-1, full - 14}}, {3, -5, Long{-1, full - 14}}, {-3, -5, Long{0, 15}},
		// Beyond 64 bits.
		{1 << 32, 1 << 31, Long{0, 1 << 63}}, {1 << 32, 1 << 32, Long{1, 0}}, {-1 << 32, 1 << 32, Long{-1, 0}}, {1 << 40, 1 << 40, Long{1 << 16, 0}}, {1<<32 + 1, 1 << 32, Long{1, 1 << 32}}, {-1<<32 - 1, 1 << 32, Long{-2, full - 1<<32 + 1}},
		// The ends.
		{least, 1, Long{-1, 1 << 63}}, {least, -1, Long{0, 1 << 63}}, {-1, least, Long{0, 1 << 63}}, {least, 2, Long{-1, 0}}, {least, least, Long{1 << 62, 0}},
		{greatest, greatest, Long{1<<62 - 1, 1}}, {least, greatest, Long{-1 << 62, 1 << 63}}, {greatest, least, Long{-1 << 62, 1 << 63}}, {greatest, -1, Long{-1, 1<<63 + 1}},
	} {
		if got := Product(c.a, c.b); got != c.want {
			t.Errorf("of %d and %d: %v, not %v", c.a, c.b, got, c.want)
		}
	}
	for _, a := range numbers() {
		for _, b := range numbers() {
			if exact(Product(a, b)).Cmp(bigProduct(a, b)) != 0 {
				t.Fatalf("of %d and %d: %v", a, b, Product(a, b))
			}
		}
	}
}

// P2.1: the sum, going round at 2^128.
func TestSum(t *testing.T) {
	for _, c := range []struct{ a, b, want Long }{
		{Of(2), Of(3), Of(5)}, {Of(-3), Of(5), Of(2)}, {Of(3), Of(-5), Of(-2)}, {Of(-2), Of(-3), Of(-5)}, {Of(-1), Of(1), Long{}}, {Long{}, Long{}, Long{}},
		// From Low to High.
		{Of(greatest), Of(1), Long{0, 1 << 63}}, {Of(least), Of(-1), Long{-1, 1<<63 - 1}}, {Long{0, full}, Of(1), Long{1, 0}}, {Long{1, 0}, Of(-1), Long{0, full}}, {Long{0, full}, Long{0, full}, Long{1, full - 1}}, {Long{-1, 0}, Of(-1), Long{-2, full}},
		{Long{3, 4}, Long{-5, 6}, Long{-2, 10}},
		// Going round.
		{Long{greatest, full}, Of(1), Long{least, 0}}, {Long{least, 0}, Of(-1), Long{greatest, full}}, {Long{least, 0}, Long{least, 0}, Long{}}, {Long{greatest, full}, Long{greatest, full}, Of(-2)}, {Long{greatest, 0}, Long{1, 0}, Long{least, 0}},
	} {
		if got := Sum(c.a, c.b); got != c.want {
			t.Errorf("of %v and %v: %v, not %v", c.a, c.b, got, c.want)
		}
	}
	for _, a := range longs() {
		for _, b := range longs() {
			want := rounds(new(big.Int).Add(exact(a), exact(b)))
			if exact(Sum(a, b)).Cmp(want) != 0 {
				t.Fatalf("of %v and %v: %v", a, b, Sum(a, b))
			}
		}
	}
}

// P2.1: 0 less it, going round at 2^128.
func TestNegative(t *testing.T) {
	for _, c := range []struct{ a, want Long }{
		{Long{}, Long{}}, {Of(5), Of(-5)}, {Of(-5), Of(5)}, {Of(1), Long{-1, full}}, {Of(greatest), Of(-greatest)}, {Of(least), Long{0, 1 << 63}},
		// Low of 0: nothing is taken from High.
		{Long{1, 0}, Long{-1, 0}}, {Long{-7, 0}, Long{7, 0}}, {Long{1, 1}, Long{-2, full}}, {Long{0, full}, Long{-1, 1}},
		{Long{greatest, full}, Long{least, 1}}, {Long{least, 1}, Long{greatest, full}},
		// Going round.
		{Long{least, 0}, Long{least, 0}},
	} {
		if got := Negative(c.a); got != c.want {
			t.Errorf("of %v: %v, not %v", c.a, got, c.want)
		}
	}
	for _, a := range longs() {
		want := rounds(new(big.Int).Neg(exact(a)))
		if exact(Negative(a)).Cmp(want) != 0 {
			t.Errorf("of %v: %v", a, Negative(a))
		}
	}
}

// P2.1: is a below b? And == tells whether they are one number.
func TestLess(t *testing.T) {
	for _, c := range []struct {
		a, b Long
		want bool
	}{
		{Of(1), Of(2), true}, {Of(2), Of(1), false}, {Of(2), Of(2), false},
		// Below 0: High has a sign, Low has none.
		{Of(-1), Of(0), true}, {Of(0), Of(-1), false}, {Of(-2), Of(-1), true}, {Of(-1), Of(-2), false}, {Of(least), Of(greatest), true}, {Of(greatest), Of(least), false},
		{Long{0, 1 << 63}, Long{0, 1}, false}, {Long{0, 1}, Long{0, 1 << 63}, true}, {Long{0, full}, Long{1, 0}, true}, {Long{1, 0}, Long{0, full}, false}, {Long{-1, 0}, Of(-1), true},
		{Long{least, 0}, Long{greatest, full}, true}, {Long{greatest, full}, Long{least, 0}, false}, {Long{least, 0}, Long{least, 0}, false},
	} {
		if got := Less(c.a, c.b); got != c.want {
			t.Errorf("of %v and %v: %v", c.a, c.b, got)
		}
	}
	for _, a := range longs() {
		for _, b := range longs() {
			order := exact(a).Cmp(exact(b))
			if Less(a, b) != (order < 0) || (a == b) != (order == 0) {
				t.Fatalf("of %v and %v: %v", a, b, Less(a, b))
			}
		}
	}
}

// P2.1: as a number; the least or the greatest one of a long number that is none.
func TestHold(t *testing.T) {
	for _, c := range []struct {
		a    Long
		want int64
	}{
		{Long{}, 0}, {Long{0, 5}, 5}, {Long{-1, full}, -1}, {Long{-1, full - 4}, -5},
		// The last ones that are numbers.
		{Long{0, 1<<63 - 1}, greatest}, {Long{-1, 1 << 63}, least}, {Long{0, 1<<63 - 2}, greatest - 1}, {Long{-1, 1<<63 + 1}, least + 1},
		// Held.
		{Long{0, 1 << 63}, greatest}, {Long{0, full}, greatest}, {Long{1, 0}, greatest}, {Long{1, 5}, greatest}, {Long{greatest, full}, greatest}, {Long{1 << 62, 0}, greatest},
		{Long{-1, 1<<63 - 1}, least}, {Long{-1, 5}, least}, {Long{-1, 0}, least}, {Long{-2, full}, least}, {Long{-2, full - 4}, least}, {Long{least, 0}, least}, {Long{least, full}, least},
	} {
		if got := Hold(c.a); got != c.want {
			t.Errorf("of %v: %d, not %d", c.a, got, c.want)
		}
	}
	for _, x := range numbers() {
		if Hold(Of(x)) != x {
			t.Errorf("of %d: %d", x, Hold(Of(x)))
		}
	}
	for _, a := range longs() {
		if Hold(a) != held(exact(a)) {
			t.Errorf("of %v: %d", a, Hold(a))
		}
	}
}

// P2.2: the nearest number to the product divided by d, a half goes up, held; 0, if d is 0.
func TestMulDiv(t *testing.T) {
	for _, c := range [][4]int64{
		{6, 4, 3, 8}, {-6, 4, 3, -8}, {5, 5, 3, 8}, {5, 7, 3, 12}, {-5, 5, 3, -8}, {-5, 7, 3, -12}, {0, 7, 3, 0}, {0, 7, -3, 0}, {1, 1, 3, 0}, {1, -1, 3, 0},
		// Halves.
		{7, 3, 2, 11}, {-7, 3, 2, -10}, {1, 1, 2, 1}, {-1, 1, 2, 0}, {1, -3, 2, -1}, {3, 3, 6, 2}, {-3, 3, 6, -1}, {1 << 40, 3 << 40, 1 << 41, 3 << 39},
		{1 << 61, 5, 1 << 62, 3}, {-1 << 61, 5, 1 << 62, -2},
		// Beside halves of a divisor that isn't even.
		{1, 4, 9, 0}, {1, 5, 9, 1}, {-1, 4, 9, 0}, {-1, 5, 9, -1},
		// d below 0.
		{7, 3, -2, -10}, {-7, 3, -2, 11}, {7, -3, -2, 11}, {-7, -3, -2, -10}, {1, 1, -2, 0}, {-1, 1, -2, 1}, {6, 4, -3, -8}, {5, 7, -3, -12}, {-5, 7, -3, 12},
		// d of 0.
		{5, 5, 0, 0}, {-5, 5, 0, 0}, {0, 0, 0, 0}, {least, least, 0, 0}, {greatest, least, 0, 0},
		// A product beyond 64 bits.
		{1 << 62, 1 << 62, 1 << 62, 1 << 62}, {-1 << 62, 1 << 62, 1 << 62, -1 << 62}, {greatest, greatest, greatest, greatest}, {least, least, least, least}, {least, greatest, greatest, least}, {least, greatest, least, greatest}, {greatest, greatest - 1, greatest, greatest - 1},
		{greatest, greatest, least, -greatest + 1}, {least, least, greatest, greatest},
		// The ends.
		{least, 1, 1, least}, {greatest, 1, 1, greatest}, {greatest, 1, -1, -greatest}, {least, -1, -1, least}, {1 << 62, 1, least, 0}, {-1 << 62, 1, least, 1}, {1 << 62, 3, least, -1}, {1 << 62, -3, least, 2}, {1, 1, least, 0}, {1, 1, greatest, 0},
		{1 << 62, 1, greatest, 1}, {1<<62 - 1, 1, greatest, 0}, {-1 << 62, 1, greatest, -1}, {-1<<62 + 1, 1, greatest, 0},
		// Held.
		{least, 1, -1, greatest}, {least, -1, 1, greatest}, {greatest, greatest, 1, greatest}, {least, least, 1, greatest}, {least, least, -1, least}, {least, greatest, 1, least}, {least, greatest, 3, least}, {least, greatest, -3, greatest}, {greatest, 2, 1, greatest}, {greatest, -2, 1, least},
		// 2^63 - 1/2 goes up, beyond the greatest; -2^63 - 1/2 goes up, to the least; -2^63 - 1 is below it.
		{3, 6148914691236517205, 2, greatest}, {3, -6148914691236517205, 2, least + 1}, {274177, -67280421310721, 2, least}, {274177, 67280421310721, -2, least}, {3, -6148914691236517206, 2, least},
	} {
		if got := MulDiv(c[0], c[1], c[2]); got != c[3] {
			t.Errorf("%d times %d by %d: %d, not %d", c[0], c[1], c[2], got, c[3])
		}
	}
	for _, a := range numbers() {
		for _, b := range numbers() {
			p := bigProduct(a, b)
			for _, d := range numbers() {
				want := int64(0)
				if d != 0 {
					want = held(nearest(p, big.NewInt(d)))
				}
				if got := MulDiv(a, b, d); got != want {
					t.Fatalf("%d times %d by %d: %d, not %d", a, b, d, got, want)
				}
			}
		}
	}
}

// P2.2: as MulDiv by 2 to the n; n below 0 is as 0; 0, if n is above 127.
func TestMulShift(t *testing.T) {
	for _, c := range []struct {
		a, b int64
		n    int
		want int64
	}{
		{5, 4, 2, 5}, {7, 3, 2, 5}, {11, 2, 2, 6}, {23, 1, 2, 6}, {-5, 4, 2, -5}, {-7, 3, 2, -5}, {-11, 2, 2, -5}, {-23, 1, 2, -6}, {0, 7, 3, 0},
		// Halves.
		{3, 1, 1, 2}, {-3, 1, 1, -1}, {1, 1, 1, 1}, {-1, 1, 1, 0}, {4, 1, 3, 1}, {4, -1, 3, 0}, {5, -1, 3, -1}, {-3, -1, 1, 2},
		// n of 0, and below.
		{5, 5, 0, 25}, {-5, 5, 0, -25}, {5, 5, -1, 25}, {-5, 5, -64, -25}, {-5, -5, math.MinInt, 25}, {least, 1, 0, least}, {greatest, 1, -1, greatest},
		// A product beyond 64 bits.
		{1 << 40, 1 << 40, 40, 1 << 40}, {1 << 62, 1 << 62, 62, 1 << 62}, {1 << 62, 1 << 62, 63, 1 << 61}, {1 << 62, 1 << 62, 64, 1 << 60}, {1 << 62, 1 << 62, 65, 1 << 59}, {-1 << 62, 1 << 62, 62, -1 << 62}, {-1 << 62, 1 << 62, 64, -1 << 60}, {-1 << 62, 1 << 62, 65, -1 << 59},
		{least, greatest, 63, -greatest}, {least, greatest, 64, -1<<62 + 1}, {least, greatest, 65, -1 << 61},
		// Halves of them.
		{1 << 32, 1 << 31, 64, 1}, {-1 << 32, 1 << 31, 64, 0}, {-1 << 32, 1<<31 + 1, 64, -1}, {1 << 32, 1<<31 - 1, 64, 0}, {3 << 32, 1 << 31, 64, 2}, {-3 << 32, 1 << 31, 64, -1}, {1 << 32, 1 << 32, 65, 1}, {-1 << 32, 1 << 32, 65, 0},
		// n of 126 and 127, and above.
		{least, least, 126, 1}, {least, greatest, 126, -1}, {greatest, greatest, 126, 1}, {least, least, 127, 1}, {least, greatest, 127, 0}, {greatest, greatest, 127, 0}, {-1, 1, 127, 0}, {1, 1, 127, 0},
		{least, least, 128, 0}, {least, greatest, 128, 0}, {5, 5, 128, 0}, {-1, 1, 128, 0}, {-1, 1, 129, 0}, {greatest, greatest, 1000, 0}, {least, least, math.MaxInt, 0}, {-1, 1, math.MaxInt, 0},
		// Held.
		{1 << 62, 1 << 62, 60, greatest}, {1 << 62, 1 << 62, 61, greatest}, {least, least, 63, greatest}, {least, -1, 0, greatest}, {-1 << 62, 1 << 62, 61, least}, {-1 << 62, 1 << 62, 60, least}, {least, greatest, 62, least}, {least, greatest, 0, least}, {greatest, greatest, -5, greatest}, {least, greatest, math.MinInt, least},
		// 2^63 - 1/2 goes up, beyond the greatest; -2^63 - 1/2 goes up, to the least; -2^63 - 1 is below it.
		{3, 6148914691236517205, 1, greatest}, {3, -6148914691236517205, 1, least + 1}, {274177, -67280421310721, 1, least}, {3, -6148914691236517206, 1, least},
	} {
		if got := MulShift(c.a, c.b, c.n); got != c.want {
			t.Errorf("%d times %d by %d: %d, not %d", c.a, c.b, c.n, got, c.want)
		}
	}
	for _, a := range numbers() {
		for _, b := range numbers() {
			p := bigProduct(a, b)
			for n := -3; n < 140; n++ {
				want := held(nearest(p, new(big.Int).Lsh(big.NewInt(1), uint(max(n, 0)))))
				if got := MulShift(a, b, n); got != want {
					t.Fatalf("%d times %d by %d: %d, not %d", a, b, n, got, want)
				}
			}
		}
	}
}
