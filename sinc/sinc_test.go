package sinc

import (
	"math"
	"math/big"
	"testing"

	"smalto/api"
)

const (
	least    = math.MinInt64
	greatest = math.MaxInt64
	piSquare = 10851744800547 // as the chapter has it
	whole    = 1 << 40        // 1, as a fine number
	finestQ  = 1 << 20
	third    = finestQ / 3 // three times it is just below finestQ, three times the next one is above
)

func power(n int64) *big.Int {
	return new(big.Int).Lsh(big.NewInt(1), uint(n))
}

func times(a *big.Int, b int64) *big.Int {
	return new(big.Int).Mul(a, big.NewInt(b))
}

// nearest: to a divided by a b above 0: twice a, and b, divided by twice b, downwards: so a half goes up.
func nearest(a, b *big.Int) *big.Int {
	x := new(big.Int).Lsh(a, 1)
	x.Add(x, b)
	return x.Div(x, new(big.Int).Lsh(b, 1))
}

// below: is p, without sign, below n times q?
func below(p, n, q int64) bool {
	return times(big.NewInt(q), n).CmpAbs(big.NewInt(p)) > 0
}

func toldMay(p, q int64) bool {
	return q >= 1 && q <= finestQ && times(big.NewInt(q), 4).CmpAbs(big.NewInt(p)) >= 0
}

// toldSeries: the sinc of p over q, by the chapter's words, over unbounded integers.
func toldSeries(p, q int64) *big.Int {
	size, by := new(big.Int).Abs(big.NewInt(p)), big.NewInt(q)
	v := nearest(times(size, piSquare), by)
	u := nearest(new(big.Int).Mul(v, size), by)
	term, sum := power(40), power(40)
	for i := int64(1); i <= 30; i++ {
		term = nearest(new(big.Int).Mul(term, u), times(power(40), 2*i*(2*i+1)))
		if i%2 == 0 {
			sum.Add(sum, term)
		} else {
			sum.Sub(sum, term)
		}
	}
	return sum
}

func toldSinc(p, q int64) int64 {
	if !toldMay(p, q) {
		return 0
	}
	return toldSeries(p, q).Int64()
}

func toldLanczos(p, q int64) int64 {
	if !toldMay(p, q) || !below(p, 3, q) {
		return 0
	}
	product := new(big.Int).Mul(toldSeries(p, q), toldSeries(p, 3*q))
	return nearest(nearest(product, power(40)), power(10)).Int64()
}

// realSinc: the sine of pi times x, divided by pi times x.
func realSinc(x float64) float64 {
	if x == 0 {
		return 1
	}
	return math.Sin(math.Pi*x) / (math.Pi * x)
}

// steps: q's that may be: small ones, powers of 2, a third of the greatest one and that one, with those beside them, and some in between.
func steps() []int64 {
	var l []int64
	for q := int64(1); q <= 40; q++ {
		l = append(l, q)
	}
	for n := 6; n < 20; n++ {
		l = append(l, 1<<n-1, 1<<n, 1<<n+1)
	}
	l = append(l, 74, 79, 84, 94, 1000, 4999, 65535, 100000, 500000, 999983, 1000000)
	l = append(l, third-1, third, third+1, third+2, finestQ-2, finestQ-1, finestQ)
	return l
}

// places: whole, half and third ones of q with those beside them, beyond 4 times q too, and some in between, to both sides.
func places(q int64) []int64 {
	var l []int64
	add := func(p int64) {
		l = append(l, p, -p)
	}
	for n := int64(0); n <= 30; n++ {
		for j := int64(-3); j <= 3; j++ {
			add(n*q/6 + j)
		}
	}
	for p := int64(0); p <= 4*q; p += 1 + q/13 {
		add(p)
	}
	return l
}

// strange: numbers that no q may be, or no p.
func strange() []int64 {
	return []int64{least, least + 1, -1 << 62, -1<<32 - 1, -1 << 32, -1 << 31, -finestQ, -3, -1, 0, finestQ + 1, 1 << 21, 1 << 31, 1 << 32, 1<<32 + 1, 1 << 61, 1<<62 - 1, 1 << 62, 1<<62 + 1, 1<<63 - 2, greatest}
}

// P4.1: q is from 1 to 2^20, and p, without sign, isn't above 4 times q.
func TestMay(t *testing.T) {
	for _, c := range []struct {
		p, q int64
		want bool
	}{
		{0, 1, true}, {0, 5, true}, {1, 2, true}, {-7, 2, true}, {3, 1, true}, {-3, 1, true},
		// 4 times q, and just beside it, to either side.
		{4, 1, true}, {-4, 1, true}, {5, 1, false}, {-5, 1, false}, {27, 7, true}, {28, 7, true}, {29, 7, false}, {-27, 7, true}, {-28, 7, true}, {-29, 7, false},
		{1<<22 - 1, 1 << 20, true}, {1 << 22, 1 << 20, true}, {1<<22 + 1, 1 << 20, false}, {1 - 1<<22, 1 << 20, true}, {-1 << 22, 1 << 20, true}, {-1<<22 - 1, 1 << 20, false},
		// 0 and below.
		{0, 0, false}, {1, 0, false}, {-1, 0, false}, {0, -1, false}, {1, -1, false}, {-4, -1, false}, {4, -1, false}, {0, -1 << 20, false}, {0, least, false}, {least, least, false}, {greatest, least, false},
		// Above 2^20.
		{0, 1<<20 - 1, true}, {0, 1 << 20, true}, {0, 1<<20 + 1, false}, {1, 1<<20 + 1, false}, {0, 1 << 32, false}, {1, 1<<32 + 1, false}, {0, 1 << 62, false}, {0, greatest, false}, {least, greatest, false}, {greatest, greatest, false},
		// A p so great that fewer of its bits would do, or that has no number without sign.
		{1 << 32, 1, false}, {-1 << 32, 1, false}, {1<<32 + 1, 1, false}, {greatest, 1, false}, {least, 1, false}, {least + 1, 1 << 20, false}, {greatest, 1 << 20, false}, {least, 1 << 20, false}, {least, 0, false},
	} {
		if got := May(c.p, c.q); got != c.want {
			t.Errorf("of %d over %d: %v", c.p, c.q, got)
		}
	}
	for _, q := range append(steps(), strange()...) {
		for _, p := range append(places(q), strange()...) {
			if got, want := May(p, q), toldMay(p, q); got != want {
				t.Fatalf("of %d over %d: %v", p, q, got)
			}
		}
	}
}

// P4.1: a fraction's sinc, as the chapter makes it; 0 of one that may not be.
func TestSinc(t *testing.T) {
	for _, c := range []struct{ p, q, want int64 }{
		{1, 3, 909288796867}, {-1, 3, 909288796867}, {5, 3, -181857759373}, {10, 3, -90928879687}, {2500001, 999983, 139991731233}, {-1000003, 1000000, -3298525},
		// At 0.
		{0, 1, whole}, {0, 5, whole}, {0, third + 1, whole}, {0, 1 << 20, whole},
		// Whole ones: what the sum leaves of 0.
		{1, 1, -1}, {2, 1, -1}, {3, 1, -1}, {4, 1, -1}, {-4, 1, -1}, {4 << 20, 1 << 20, -1}, {-4 << 20, 1 << 20, -1}, {6, 2, -1},
		// Beside these.
		{999, 1000, 1100610429}, {1001, 1000, -1098411408}, {2999, 1000, 366625482}, {3001, 1000, -366381147}, {3999, 1000, -274946191}, {4<<20 - 1, 1 << 20, -262144}, {3<<20 - 1, 1 << 20, 349525},
		// Halves: the first term's of 1, the first rounded product's of an odd p over 2, the second one's of 3 and 7 over 2, and of 13 over 4.
		{1, 2, 699970842191}, {3, 2, -233323614063}, {5, 2, 139994168439}, {7, 2, -99995834599}, {-7, 2, -99995834599}, {13, 4, -76146789101}, {700, 200, -99995834599},
		// Next to 0.
		{1, 1 << 20, whole - 2}, {-1, 1 << 20, whole - 2}, {1, third, whole - 15}, {1, third + 1, whole - 15},
		// A q beside a third of 2^20.
		{200000, third - 1, 595971866419}, {200000, third, 595974278996}, {200000, third + 1, 595976691556}, {-200000, third + 1, 595976691556},
		// No such fractions.
		{5, 1, 0}, {-5, 1, 0}, {1<<22 + 1, 1 << 20, 0}, {-1<<22 - 1, 1 << 20, 0}, {0, 0, 0}, {1, 0, 0}, {0, -1, 0}, {1, -2, 0}, {-1, -2, 0}, {0, 1<<20 + 1, 0}, {1 << 19, 1<<20 + 1, 0}, {1, 1<<32 + 2, 0}, {1<<32 + 1, 2, 0},
		{least, 1, 0}, {greatest, 1, 0}, {least, 1 << 20, 0}, {0, least, 0}, {0, greatest, 0}, {1, greatest, 0}, {least, least, 0}, {least, greatest, 0}, {greatest, greatest, 0},
	} {
		if got := Sinc(c.p, c.q); got != c.want {
			t.Errorf("of %d over %d: %d, not %d", c.p, c.q, got, c.want)
		}
	}
	for _, q := range append(steps(), strange()...) {
		for _, p := range append(places(q), strange()...) {
			if got, want := Sinc(p, q), toldSinc(p, q); got != want {
				t.Fatalf("of %d over %d: %d, not %d", p, q, got, want)
			}
		}
	}
}

// P4.1: the product of the sincs of p over q and over 3 times q, rounded to a fine number, and that to a raw weight; 0 from 3 on.
func TestLanczos(t *testing.T) {
	for _, c := range []struct{ p, q, want int64 }{
		{1, 2, 652756755}, {-1, 2, 652756755}, {3, 2, -145057057}, {-3, 2, -145057057}, {5, 2, 26110270}, {1, 3, 870053994}, {4, 3, -156576289}, {8, 3, 13594594}, {1000003, 1000000, -2664},
		// At 0, and next to it.
		{0, 1, api.Unit}, {0, 5, api.Unit}, {0, 1 << 20, api.Unit}, {1, 1 << 20, api.Unit}, {1, third + 1, api.Unit},
		// Whole ones.
		{1, 1, 0}, {2, 1, 0}, {-2, 1, 0}, {999, 1000, 889216}, {1001, 1000, -886738}, {1999, 1000, -222350},
		// 3 times q, and just beside it, to either side; there is something beyond it that doesn't count.
		{3, 1, 0}, {-3, 1, 0}, {3000, 1000, 0}, {2999, 1000, 119}, {-2999, 1000, 119}, {3001, 1000, 0}, {-3001, 1000, 0}, {13, 4, 0}, {7, 2, 0}, {-7, 2, 0}, {10, 3, 0}, {-10, 3, 0},
		{3 << 20, 1 << 20, 0}, {-3 << 20, 1 << 20, 0}, {3<<20 - 1, 1 << 20, 0}, {3<<20 - 2000, 1 << 20, 435}, {3<<20 + 2000, 1 << 20, 0}, {-3<<20 - 2000, 1 << 20, 0}, {7 << 19, 1 << 20, 0},
		// 4 times q, and beside it.
		{4, 1, 0}, {-4, 1, 0}, {5, 1, 0}, {3999, 1000, 0}, {4000, 1000, 0}, {4001, 1000, 0},
		// A q beside a third of 2^20, and far above: 3 times it counts all the same.
		{200000, third - 1, 547794991}, {200000, third, 547797401}, {200000, third + 1, 547799810}, {-200000, third + 1, 547799810}, {500000, third, -155294343}, {500000, third + 1, -155294740}, {900000, third, 20611386}, {900000, third + 1, 20611952},
		{1 << 19, 1 << 20, 652756755}, {-1 << 19, 1 << 20, 652756755}, {5 << 19, 1 << 20, 26110270}, {2500001, 999983, 26107301},
		// Halves between two raw weights, above 0 and below.
		{53, 74, 337439699}, {199, 79, 24783237}, {17, 84, 995358072}, {35, 19, -42871081}, {131, 74, -66069080}, {144, 83, -77797174},
		// No halves but for the first rounding, which counts.
		{67, 94, 342341271}, {57, 100, 551042617}, {269, 143, -31007037}, {258, 185, -157730218},
		// No such fractions.
		{0, 0, 0}, {1, 0, 0}, {0, -1, 0}, {1, -2, 0}, {-1, -2, 0}, {0, 1<<20 + 1, 0}, {1 << 19, 1<<20 + 1, 0}, {1, 1<<32 + 2, 0}, {1<<32 + 1, 2, 0},
		{least, 1, 0}, {greatest, 1, 0}, {least, 1 << 20, 0}, {0, least, 0}, {0, greatest, 0}, {1, greatest, 0}, {least, least, 0}, {least, greatest, 0}, {greatest, greatest, 0},
	} {
		if got := Lanczos(c.p, c.q); got != c.want {
			t.Errorf("of %d over %d: %d, not %d", c.p, c.q, got, c.want)
		}
	}
	for _, q := range append(steps(), strange()...) {
		for _, p := range append(places(q), strange()...) {
			if got, want := Lanczos(p, q), toldLanczos(p, q); got != want {
				t.Fatalf("of %d over %d: %d, not %d", p, q, got, want)
			}
		}
	}
}

// P4.2: Sinc and Lanczos are the same of p and -p.
func TestSides(t *testing.T) {
	for _, q := range append(steps(), strange()...) {
		for _, p := range append(places(q), strange()...) {
			if p == least {
				continue
			}
			if a, b := Sinc(p, q), Sinc(-p, q); a != b {
				t.Fatalf("of %d and %d over %d: %d and %d", p, -p, q, a, b)
			}
			if a, b := Lanczos(p, q), Lanczos(-p, q); a != b {
				t.Fatalf("of %d and %d over %d: %d and %d, weighed", p, -p, q, a, b)
			}
		}
	}
}

// P4.2: Sinc is within 2^-24 of the real one.
func TestSincNear(t *testing.T) {
	bound := math.Ldexp(1, -24)
	near := func(p, q int64) {
		got, want := Sinc(p, q), realSinc(float64(p)/float64(q))
		if math.Abs(math.Ldexp(float64(got), -40)-want) > bound {
			t.Fatalf("of %d over %d: %d is too far from %g", p, q, got, want)
		}
	}
	everywhere(near)
}

// P4.2: Lanczos, divided by 2^30, is within 2^-20 of the real one, which is 0 from 3 on.
func TestLanczosNear(t *testing.T) {
	bound := math.Ldexp(1, -20)
	near := func(p, q int64) {
		x, want := float64(p)/float64(q), 0.0
		if below(p, 3, q) {
			want = realSinc(x) * realSinc(x/3)
		}
		got := Lanczos(p, q)
		if math.Abs(math.Ldexp(float64(got), -30)-want) > bound {
			t.Fatalf("of %d over %d: %d is too far from %g", p, q, got, want)
		}
	}
	everywhere(near)
}

// everywhere: has near look at all fractions of small q's, at every so many of greater ones, and at the edges of all steps.
func everywhere(near func(p, q int64)) {
	for q := int64(1); q <= 60; q++ {
		for p := -4 * q; p <= 4*q; p++ {
			near(p, q)
		}
	}
	for _, q := range steps() {
		for p := -4 * q; p <= 4*q; p += 1 + q/500 {
			near(p, q)
		}
		for _, p := range places(q) {
			if toldMay(p, q) {
				near(p, q)
			}
		}
	}
}
