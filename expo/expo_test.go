package expo

import (
	"math"
	"math/big"
	"testing"

	"smalto/api"
)

const (
	least    = math.MinInt64
	greatest = math.MaxInt64
	ln2      = 762123384786 // as the chapter has it
	whole    = 1 << 40      // 1, as a fine number
)

func power(n int64) *big.Int {
	return new(big.Int).Lsh(big.NewInt(1), uint(n))
}

// nearest: to a divided by a b above 0: twice a, and b, divided by twice b, downwards: so a half goes up.
func nearest(a, b *big.Int) *big.Int {
	x := new(big.Int).Lsh(a, 1)
	x.Add(x, b)
	return x.Div(x, new(big.Int).Lsh(b, 1))
}

// toldExp: e to the -t, by the chapter's words, over unbounded integers.
func toldExp(t int64) int64 {
	if t < 0 {
		t = 0
	}
	k, r := t/ln2, big.NewInt(t%ln2)
	term := power(40)
	sum := power(40)
	for i := int64(1); i <= 16; i++ {
		by := new(big.Int).Mul(big.NewInt(i), power(40))
		term = nearest(new(big.Int).Mul(term, r), by)
		if i%2 == 0 {
			sum.Add(sum, term)
		} else {
			sum.Sub(sum, term)
		}
	}
	// Millions of bits would tell no more than a thousand.
	return nearest(sum, power(min(k, 1000))).Int64()
}

// toldRatio: d times d times 2^71, divided by sigma times sigma, by the chapter's words, over unbounded integers.
func toldRatio(d, sigma int64) int64 {
	if sigma < 1 || sigma > 1<<22 || d < -1<<14 || d > 1<<14 {
		return greatest
	}
	x := new(big.Int).Mul(big.NewInt(d), big.NewInt(d))
	q := nearest(x.Mul(x, power(71)), new(big.Int).Mul(big.NewInt(sigma), big.NewInt(sigma)))
	if !q.IsInt64() {
		return greatest
	}
	return q.Int64()
}

func toldGauss(d, sigma int64) int64 {
	return nearest(big.NewInt(toldExp(toldRatio(d, sigma))), power(10)).Int64()
}

// times: both ends, 0 and below, powers of 2, multiples of ln2, all with those beside them, and some in between.
func times() []int64 {
	l := []int64{least, least + 1, -ln2, -whole, greatest - 1, greatest}
	beside := func(t int64) {
		for j := int64(-3); j <= 3; j++ {
			l = append(l, t+j)
		}
	}
	beside(0)
	for n := 2; n < 63; n++ {
		beside(1 << n)
	}
	for k := int64(1); k <= 70; k++ {
		beside(k * ln2)
	}
	beside(1000 * ln2)
	beside(greatest / ln2 * ln2)
	// Odd multiples of 2^20: the second term is a half, and more.
	for t := int64(1 << 20); t < 2*ln2; t += 12345 << 21 {
		l = append(l, t)
	}
	for t := int64(1); t < 45*ln2; t += 1234567891 {
		l = append(l, t)
	}
	return l
}

// distances: small ones, powers of 2, the bounds and beyond them, and both ends.
func distances() []int64 {
	l := []int64{least, least + 1, -1<<14 - 1, 1<<14 + 1, 1 << 15, 1 << 31, 1 << 32, 1<<32 + 1, greatest - 1, greatest}
	for d := int64(-10); d <= 10; d++ {
		l = append(l, d)
	}
	for n := 4; n <= 14; n++ {
		l = append(l, 1<<n, -1<<n, 1<<n-1, 1-1<<n)
	}
	return l
}

// sigmas: small ones, powers of 2 with those beside them, the bounds and beyond them, both ends, and some in between.
func sigmas() []int64 {
	l := []int64{least, least + 1, -1 << 22, 1 << 23, 1 << 31, 1 << 32, 1<<32 + 1, greatest - 1, greatest}
	for s := int64(-5); s <= 100; s++ {
		l = append(l, s)
	}
	for n := 7; n <= 22; n++ {
		l = append(l, 1<<n-1, 1<<n, 1<<n+1)
	}
	for s := int64(1); s < 1<<22; s += 7919 {
		l = append(l, s)
	}
	return l
}

// P3.1: e to the -t, as the chapter makes it; of a t below 0 that of 0.
func TestExp(t *testing.T) {
	for _, c := range []struct{ t, want int64 }{
		{0, whole}, {whole, 404487723188}, {whole / 2, 666887512958}, {3 * whole, 54741460583},
		// Below 0.
		{-1, whole}, {-ln2, whole}, {-whole, whole}, {least, whole}, {least + 1, whole},
		// The first ones above it.
		{1, whole - 1}, {2, whole - 2}, {3, whole - 3},
		// The second term is 1/2, 9/2, 25/2, and each of these goes up.
		{1 << 20, whole - 1<<20 + 1}, {3 << 20, whole - 3<<20 + 5}, {5 << 20, whole - 5<<20 + 13},
		// The third term ends in a half, which goes up too, ahead of its sign.
		{97184016000, 1006498784876}, {304617357312, 833449833742}, {613534236672, 629304504111}, {635190669312, 617030735503},
		// Beside the first half of the second term.
		{1<<20 - 1, whole - 1<<20 + 1}, {1<<20 + 1, whole - 1<<20},
		// Multiples of ln2, and beside them; 2^39 - 1/2 goes up.
		{ln2 - 1, 1<<39 + 1}, {ln2, 1 << 39}, {ln2 + 1, 1 << 39}, {ln2 + 2, 1<<39 - 1}, {ln2 + 3, 1<<39 - 1},
		{2*ln2 - 1, 1<<38 + 1}, {2 * ln2, 1 << 38}, {2*ln2 + 1, 1 << 38}, {2*ln2 + 2, 1 << 38}, {2*ln2 + 3, 1<<38 - 1},
		{10 * ln2, 1 << 30}, {39 * ln2, 2}, {40 * ln2, 1},
		// Of 1/2 there is 1 left, of what is less there is nothing.
		{41*ln2 - 1, 1}, {41 * ln2, 1}, {41*ln2 + 1, 0}, {42 * ln2, 0},
		// So great a t that it is shifted by 63, by 64, and by millions.
		{63 * ln2, 0}, {64 * ln2, 0}, {65 * ln2, 0}, {1 << 62, 0}, {greatest / ln2 * ln2, 0}, {greatest - 1, 0}, {greatest, 0},
	} {
		if got := Exp(c.t); got != c.want {
			t.Errorf("of %d: %d, not %d", c.t, got, c.want)
		}
	}
	for _, x := range times() {
		if got, want := Exp(x), toldExp(x); got != want {
			t.Fatalf("of %d: %d, not %d", x, got, want)
		}
	}
}

// P3.1: the nearest fine number to d times d by twice sigma times sigma, held; the greatest one out of bounds.
func TestRatio(t *testing.T) {
	for _, c := range []struct{ d, sigma, want int64 }{
		{1, 1 << 16, 1 << 39}, {2, 1 << 16, 1 << 41}, {3, 1 << 16, 9 << 39}, {1, 1 << 15, 1 << 41}, {1, 1 << 17, 1 << 37}, {7, 100000, 11569797883031}, {5, 200003, 1475695254707},
		// The distance has no side.
		{-1, 1 << 16, 1 << 39}, {-2, 1 << 16, 1 << 41}, {-3, 1 << 16, 9 << 39}, {-7, 100000, 11569797883031}, {-1 << 14, 1 << 22, 1 << 55},
		// No distance.
		{0, 1, 0}, {0, 1 << 16, 0}, {0, 1 << 22, 0}, {0, api.MaxSigma, 0},
		// The bounds.
		{1, 1 << 22, 1 << 27}, {1 << 14, 1 << 22, 1 << 55}, {1, api.MaxSigma, 1 << 27},
		// Held: 2^63 is the first that is.
		{1, 1, greatest}, {-1, 1, greatest}, {1, 15, greatest}, {1, 16, greatest}, {1, 17, 8170184226418071304}, {-1, 17, 8170184226418071304},
		{1 << 14, 1, greatest}, {1 << 14, 1<<18 - 1, greatest}, {1 << 14, 1 << 18, greatest}, {1 << 14, 1<<18 + 1, 9223301668513249280}, {-1 << 14, 1<<18 + 1, 9223301668513249280},
		// Sigma out of bounds, of no distance too.
		{1, 0, greatest}, {0, 0, greatest}, {0, -1, greatest}, {1, -1, greatest}, {1, -1 << 16, greatest}, {0, least, greatest}, {1, least, greatest},
		{0, 1<<22 + 1, greatest}, {1, 1<<22 + 1, greatest}, {0, 1 << 23, greatest}, {1, 1 << 32, greatest}, {1, 1<<32 + 1, greatest}, {0, greatest, greatest}, {1, greatest, greatest},
		// The distance out of bounds.
		{1<<14 + 1, 1 << 22, greatest}, {-1<<14 - 1, 1 << 22, greatest}, {1 << 15, 1 << 22, greatest}, {1 << 32, 1 << 22, greatest}, {-1 << 32, 1 << 22, greatest}, {1<<32 + 1, 1 << 22, greatest}, {least, 1 << 22, greatest}, {greatest, 1 << 22, greatest}, {least, least, greatest},
	} {
		if got := Ratio(c.d, c.sigma); got != c.want {
			t.Errorf("of %d and %d: %d, not %d", c.d, c.sigma, got, c.want)
		}
	}
	for _, d := range distances() {
		for _, s := range sigmas() {
			if got, want := Ratio(d, s), toldRatio(d, s); got != want {
				t.Fatalf("of %d and %d: %d, not %d", d, s, got, want)
			}
		}
	}
}

// P3.1: Exp of Ratio, divided by 2^10, rounded; so nothing out of bounds.
func TestGauss(t *testing.T) {
	for _, c := range []struct{ d, sigma, want int64 }{
		{1, 1 << 16, 651257337}, {-1, 1 << 16, 651257337}, {3, 1 << 16, 11928194}, {7, 100000, 28904}, {-7, 100000, 28904}, {5, 200003, 280554455}, {1 << 14, 1 << 22, 0}, {1, 1 << 22, 1073610760},
		// No distance.
		{0, 1, api.Unit}, {0, 2, api.Unit}, {0, 1 << 16, api.Unit}, {0, 1 << 22, api.Unit},
		// Halves.
		{8, 97701, 600}, {-8, 97701, 600}, {11, 127011, 109}, {37, 387870, 4}, {2, 61552, 111232541}, {-17, 366376, 10542081},
		// Nothing is left.
		{1, 1, 0}, {-1, 1, 0}, {1, 1 << 8, 0}, {1 << 14, 1, 0}, {-1 << 14, 1 << 8, 0},
		// Out of bounds.
		{0, 0, 0}, {0, -1, 0}, {1, -1 << 16, 0}, {0, least, 0}, {0, 1<<22 + 1, 0}, {0, greatest, 0},
		{1<<14 + 1, 1 << 22, 0}, {-1<<14 - 1, 1 << 22, 0}, {1 << 32, 1 << 22, 0}, {least, 1 << 16, 0}, {greatest, 1 << 16, 0},
	} {
		if got := Gauss(c.d, c.sigma); got != c.want {
			t.Errorf("of %d and %d: %d, not %d", c.d, c.sigma, got, c.want)
		}
	}
	for _, d := range distances() {
		for _, s := range sigmas() {
			if got, want := Gauss(d, s), toldGauss(d, s); got != want {
				t.Fatalf("of %d and %d: %d, not %d", d, s, got, want)
			}
		}
	}
}

// P3.2: Exp is within 2^-30 of the real one, never below 0, nor above 2^40; it is 2^40 at 0.
func TestExpNear(t *testing.T) {
	if Exp(0) != whole {
		t.Errorf("of 0: %d", Exp(0))
	}
	bound := math.Ldexp(1, -30)
	near := func(x int64) {
		got := Exp(x)
		if got < 0 || got > whole {
			t.Fatalf("of %d: %d", x, got)
		}
		want := math.Exp(-math.Ldexp(float64(x), -40))
		if x >= 0 && math.Abs(math.Ldexp(float64(got), -40)-want) > bound {
			t.Fatalf("of %d: %d is too far from %g", x, got, want)
		}
	}
	for _, x := range times() {
		near(x)
	}
	// Across the first few halvings, and where there is less and less left.
	for x := int64(0); x < 4*ln2; x += 23456789 {
		near(x)
	}
	for x := int64(0); x < 100*ln2; x += 345678901 {
		near(x)
	}
	for x := int64(0); x < 5000; x++ {
		near(x)
	}
}

// P3.2: Gauss is within 2^-20 of the real one, of a sigma from 2^8 on.
func TestGaussNear(t *testing.T) {
	bound := math.Ldexp(1, -20)
	near := func(d, sigma int64) {
		x := float64(d) / math.Ldexp(float64(sigma), -16)
		want := math.Exp(-x * x / 2)
		got := Gauss(d, sigma)
		if got < 0 || got > api.Unit || math.Abs(math.Ldexp(float64(got), -30)-want) > bound {
			t.Fatalf("of %d and %d: %d is too far from %g", d, sigma, got, want)
		}
	}
	// From the least sigma on that the promise is for up to the greatest one, each a little above the one ahead.
	for s := int64(1 << 8); s <= api.MaxSigma; s += 1 + s>>6 {
		for d := int64(0); d <= 300; d++ {
			near(d, s)
			near(-d, s)
		}
		for d := int64(301); d <= 1<<14; d += 197 {
			near(d, s)
			near(-d, s)
		}
		near(1<<14, s)
		near(-1<<14, s)
	}
	for d := int64(-1 << 14); d <= 1<<14; d++ {
		near(d, 1<<8)
		near(d, 1<<16)
		near(d, api.MaxSigma)
	}
}
