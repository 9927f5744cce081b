package fixed

import (
	"math"
	"math/big"
	"testing"
)

const (
	least    = math.MinInt64
	greatest = math.MaxInt64
)

var (
	bigLeast    = big.NewInt(least)
	bigGreatest = big.NewInt(greatest)
)

// numbers: small ones, all powers of 2 with those beside them, and both ends.
func numbers() []int64 {
	l := []int64{least, least + 1, least + 2, greatest - 2, greatest - 1, greatest, 1000003, -1000003, greatest / 3, least / 3}
	for x := int64(-20); x <= 20; x++ {
		l = append(l, x)
	}
	for k := 5; k < 63; k++ {
		p := int64(1) << k
		l = append(l, p-1, p, p+1, -p-1, -p, -p+1)
	}
	return l
}

// pairs hands each two of numbers to a test, until it finds a fault.
func pairs(t *testing.T, ok func(a, b int64) bool) {
	t.Helper()
	l := numbers()
	for _, a := range l {
		for _, b := range l {
			if !ok(a, b) {
				t.Fatalf("of %d and %d", a, b)
			}
		}
	}
}

func held(x *big.Int) int64 {
	if x.Cmp(bigLeast) < 0 {
		return least
	}
	if x.Cmp(bigGreatest) > 0 {
		return greatest
	}
	return x.Int64()
}

// bigFloor: the quotient downwards, without bounds. (big's Div leaves a rest that isn't below 0.)
func bigFloor(a, b *big.Int) *big.Int {
	x, y := new(big.Int).Set(a), new(big.Int).Set(b)
	if y.Sign() < 0 {
		x.Neg(x)
		y.Neg(y)
	}
	return x.Div(x, y)
}

// bigNearest: twice a, and b, divided by twice b, downwards: so a half goes up.
func bigNearest(a, b *big.Int) *big.Int {
	x := new(big.Int).Lsh(a, 1)
	return bigFloor(x.Add(x, b), new(big.Int).Lsh(b, 1))
}

type two struct{ a, b, want int64 }

func table(t *testing.T, f func(a, b int64) int64, l []two) {
	t.Helper()
	for _, c := range l {
		if got := f(c.a, c.b); got != c.want {
			t.Errorf("of %d and %d: %d, not %d", c.a, c.b, got, c.want)
		}
	}
}

// P1.1: the nearest number, a half goes up, held; 0, if b is 0.
func TestDiv(t *testing.T) {
	table(t, Div, []two{
		{12, 4, 3}, {-12, 4, -3}, {13, 4, 3}, {15, 4, 4}, {-13, 4, -3}, {-15, 4, -4},
		{0, 7, 0}, {0, -7, 0}, {1, 3, 0}, {2, 3, 1}, {-1, 3, 0}, {-2, 3, -1},
		// Halves.
		{7, 2, 4}, {-7, 2, -3}, {1, 2, 1}, {-1, 2, 0}, {3, 6, 1}, {-3, 6, 0}, {-9, 6, -1},
		// b below 0, b of 0.
		{7, -2, -3}, {-7, -2, 4}, {1, -2, 0}, {-1, -2, 1}, {2, -3, -1}, {-2, -3, 1}, {1, -3, 0}, {-1, -3, 0},
		{5, 0, 0}, {0, 0, 0}, {-5, 0, 0}, {least, 0, 0}, {greatest, 0, 0},
		// The ends.
		{least, 1, least}, {greatest, 1, greatest}, {greatest, -1, -greatest},
		{least, 2, -1 << 62}, {greatest, 2, 1 << 62}, {greatest, -2, -1<<62 + 1},
		{least, least, 1}, {greatest, greatest, 1}, {least, greatest, -1}, {greatest, least, -1},
		{1 << 62, least, 0}, {-1 << 62, least, 1}, {1<<62 + 1, least, -1}, {-1<<62 + 1, least, 0},
		{1 << 62, greatest, 1}, {1<<62 - 1, greatest, 0}, {-1 << 62, greatest, -1}, {-1<<62 + 1, greatest, 0},
		// Held.
		{least, -1, greatest},
	})
	pairs(t, func(a, b int64) bool {
		if b == 0 {
			return Div(a, b) == 0
		}
		return Div(a, b) == held(bigNearest(big.NewInt(a), big.NewInt(b)))
	})
}

// P1.1: as Div by 2 to the n; n below 0 is as 0, n has no greatest one.
func TestShift(t *testing.T) {
	for _, c := range []struct {
		x    int64
		n    int
		want int64
	}{
		{5, 1, 3}, {20, 2, 5}, {21, 2, 5}, {22, 2, 6}, {23, 2, 6}, {-20, 2, -5}, {-21, 2, -5}, {-22, 2, -5}, {-23, 2, -6},
		// Halves.
		{3, 1, 2}, {-3, 1, -1}, {1, 1, 1}, {-1, 1, 0}, {4, 3, 1}, {-4, 3, 0}, {-5, 3, -1},
		// n of 0, and below.
		{9, 0, 9}, {-9, 0, -9}, {least, 0, least}, {greatest, 0, greatest},
		{9, -1, 9}, {9, -4, 9}, {-9, -64, -9}, {least, math.MinInt, least}, {greatest, math.MinInt, greatest},
		// The ends.
		{greatest, 1, 1 << 62}, {least, 1, -1 << 62}, {greatest, 62, 2}, {least, 62, -2},
		// n of 63, and beyond.
		{greatest, 63, 1}, {1 << 62, 63, 1}, {1<<62 - 1, 63, 0}, {0, 63, 0}, {-1 << 62, 63, 0}, {-1<<62 - 1, 63, -1}, {least, 63, -1},
		{greatest, 64, 0}, {least, 64, 0}, {-1, 64, 0}, {greatest, 65, 0}, {least, 65, 0}, {least, 1000, 0}, {-1, math.MaxInt, 0}, {greatest, math.MaxInt, 0},
	} {
		if got := Shift(c.x, c.n); got != c.want {
			t.Errorf("%d by %d: %d, not %d", c.x, c.n, got, c.want)
		}
	}
	for _, x := range numbers() {
		for n := -3; n < 140; n++ {
			power := new(big.Int).Lsh(big.NewInt(1), uint(max(n, 0)))
			if Shift(x, n) != held(bigNearest(big.NewInt(x), power)) {
				t.Fatalf("%d by %d: %d", x, n, Shift(x, n))
			}
		}
	}
}

// P1.1: the greatest number that isn't above the quotient, held; 0, if b is 0.
func TestFloor(t *testing.T) {
	table(t, Floor, []two{
		{7, 2, 3}, {-7, 2, -4}, {6, 3, 2}, {-6, 3, -2}, {0, 5, 0}, {1, 5, 0}, {-1, 5, -1},
		// b below 0, b of 0.
		{7, -2, -4}, {-7, -2, 3}, {6, -3, -2}, {0, -5, 0}, {1, -5, -1}, {-1, -5, 0},
		{1, 0, 0}, {-1, 0, 0}, {0, 0, 0}, {least, 0, 0}, {greatest, 0, 0},
		// The ends.
		{least, 1, least}, {greatest, 1, greatest}, {greatest, -1, -greatest}, {least, 2, -1 << 62}, {greatest, 2, 1<<62 - 1}, {greatest, -2, -1 << 62},
		{least, least, 1}, {greatest, least, -1}, {least, greatest, -2}, {1, least, -1}, {-1, least, 0}, {-1, greatest, -1},
		// Held.
		{least, -1, greatest},
	})
	pairs(t, func(a, b int64) bool {
		if b == 0 {
			return Floor(a, b) == 0
		}
		return Floor(a, b) == held(bigFloor(big.NewInt(a), big.NewInt(b)))
	})
}

// P1.1: a less b times that quotient, which isn't held here; of b's sign; 0, if b is 0.
func TestMod(t *testing.T) {
	table(t, Mod, []two{
		{7, 3, 1}, {-7, 3, 2}, {6, 3, 0}, {-6, 3, 0}, {0, 3, 0}, {2, 3, 2}, {-1, 3, 2},
		// b below 0, b of 0.
		{7, -3, -2}, {-7, -3, -1}, {6, -3, 0}, {-6, -3, 0}, {0, -3, 0}, {1, -3, -2}, {-1, -3, -1},
		{1, 0, 0}, {-1, 0, 0}, {0, 0, 0}, {least, 0, 0}, {greatest, 0, 0},
		// The ends.
		{least, 1, 0}, {greatest, -1, 0}, {greatest, least, -1}, {least, greatest, greatest - 1}, {1, least, least + 1}, {-1, greatest, greatest - 1},
		{least, least, 0}, {least, 10, 2}, {greatest, 10, 7}, {greatest, -10, -3},
		// The quotient is 2^63, no number: nothing is left all the same.
		{least, -1, 0},
	})
	pairs(t, func(a, b int64) bool {
		if b == 0 {
			return Mod(a, b) == 0
		}
		x, y := big.NewInt(a), big.NewInt(b)
		want := new(big.Int).Sub(x, new(big.Int).Mul(y, bigFloor(x, y)))
		m := Mod(a, b)
		within := b > 0 && 0 <= m && m < b || b < 0 && b < m && m <= 0
		return within && big.NewInt(m).Cmp(want) == 0
	})
}

// P1.2: within low and high; low, if high is below low.
func TestClamp(t *testing.T) {
	for _, c := range [][4]int64{
		{5, 1, 9, 5}, {0, 1, 9, 1}, {10, 1, 9, 9}, {1, 1, 9, 1}, {9, 1, 9, 9}, {-5, -9, -1, -5}, {-10, -9, -1, -9}, {0, -9, -1, -1},
		{5, 3, 3, 3}, {2, 3, 3, 3}, {3, 3, 3, 3},
		// high below low.
		{5, 7, 3, 7}, {1, 7, 3, 7}, {9, 7, 3, 7}, {3, 7, 3, 7}, {7, 7, 3, 7}, {0, greatest, least, greatest},
		// The ends.
		{least, least, greatest, least}, {greatest, least, greatest, greatest}, {least, 0, greatest, 0}, {greatest, least, 0, 0}, {least, greatest, greatest, greatest}, {greatest, least, least, least},
	} {
		if got := Clamp(c[0], c[1], c[2]); got != c[3] {
			t.Errorf("%d within %d and %d: %d, not %d", c[0], c[1], c[2], got, c[3])
		}
	}
}

// P1.2: the sum, held.
func TestAdd(t *testing.T) {
	table(t, Add, []two{
		{2, 3, 5}, {-3, 5, 2}, {3, -5, -2}, {-2, -3, -5}, {0, 0, 0},
		{greatest, 0, greatest}, {least, 0, least}, {greatest, least, -1}, {least, greatest, -1}, {greatest - 1, 1, greatest}, {least + 1, -1, least},
		// Held.
		{greatest, 1, greatest}, {1, greatest, greatest}, {greatest, greatest, greatest}, {1 << 62, 1 << 62, greatest},
		{least, -1, least}, {-1, least, least}, {least, least, least}, {-1<<62 - 1, -1 << 62, least},
	})
	pairs(t, func(a, b int64) bool {
		return Add(a, b) == held(new(big.Int).Add(big.NewInt(a), big.NewInt(b)))
	})
}

// P1.2: the product, held.
func TestMul(t *testing.T) {
	table(t, Mul, []two{
		{2, 3, 6}, {-3, 5, -15}, {3, -5, -15}, {-3, -5, 15}, {0, 7, 0}, {-7, 0, 0}, {0, least, 0}, {least, 0, 0}, {greatest, 0, 0},
		{least, 1, least}, {1, least, least}, {greatest, 1, greatest}, {greatest, -1, -greatest}, {1 << 31, -1 << 32, least}, {1 << 31, 1 << 31, 1 << 62},
		// Held.
		{least, -1, greatest}, {-1, least, greatest}, {1 << 32, 1 << 31, greatest}, {-1 << 32, -1 << 31, greatest}, {greatest, greatest, greatest}, {least, least, greatest}, {greatest, 2, greatest},
		{-1<<32 - 1, 1 << 31, least}, {-1 << 32, 1 << 32, least}, {least, 2, least}, {2, least, least}, {least, greatest, least}, {greatest, -2, least},
	})
	pairs(t, func(a, b int64) bool {
		return Mul(a, b) == held(new(big.Int).Mul(big.NewInt(a), big.NewInt(b)))
	})
}

// P1.2: the greatest number that divides both, without signs, held; 0 of 0 and 0.
func TestGcd(t *testing.T) {
	table(t, Gcd, []two{
		{12, 18, 6}, {18, 12, 6}, {7, 5, 1}, {12, 4, 4}, {1, 9, 1}, {1000003, 2000006, 1000003},
		{12, -18, 6}, {-12, 18, 6}, {-12, -18, 6}, {-1, -1, 1},
		// Of 0.
		{0, 0, 0}, {0, 5, 5}, {5, 0, 5}, {0, -5, 5}, {-5, 0, 5}, {greatest, 0, greatest}, {0, -greatest, greatest},
		// The least number: 2^63 without sign, of which 2^62 is a divisor.
		{least, 6, 2}, {6, least, 2}, {least, 1, 1}, {least, -1, 1}, {least, greatest, 1}, {least, 1 << 62, 1 << 62}, {-1 << 62, least, 1 << 62}, {least, 3 << 60, 1 << 60},
		// Held.
		{least, 0, greatest}, {0, least, greatest}, {least, least, greatest},
	})
	pairs(t, func(a, b int64) bool {
		x, y := big.NewInt(a), big.NewInt(b)
		return Gcd(a, b) == held(new(big.Int).GCD(nil, nil, x.Abs(x), y.Abs(y)))
	})
}
