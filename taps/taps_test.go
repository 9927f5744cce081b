package taps

import (
	"cmp"
	"math"
	"math/big"
	"slices"
	"testing"

	"smalto/api"
	"smalto/expo"
)

const (
	least    = math.MinInt64
	greatest = math.MaxInt64
	unit     = api.Unit
	enough   = 1 << 28 // the least sum of raw weights
	top      = 1 << 40 // the greatest raw weight, without sign
	crowd    = 1 << 20 // the most raw weights
)

func long(x int64) *big.Int { return big.NewInt(x) }

// toldSum: of numbers, or of them without sign, held at each step, over unbounded integers.
func toldSum(l []int64, sign bool) int64 {
	sum := new(big.Int)
	for _, x := range l {
		y := long(x)
		if !sign {
			y.Abs(y)
		}
		sum.Add(sum, y)
		if sum.Cmp(long(greatest)) > 0 {
			sum = long(greatest)
		}
		if sum.Cmp(long(least)) < 0 {
			sum = long(least)
		}
	}
	return sum.Int64()
}

// toldApportion: the chapter's words over unbounded integers; what lacks goes out one by one.
func toldApportion(l []int64) ([]int64, api.Code) {
	if len(l) == 0 || len(l) > crowd {
		return nil, api.BadKernel
	}
	whole := new(big.Int)
	for _, w := range l {
		if long(w).CmpAbs(long(top)) > 0 {
			return nil, api.BadKernel
		}
		whole.Add(whole, long(w))
	}
	if whole.Cmp(long(enough)) < 0 {
		return nil, api.Degenerate
	}
	taps, rests := make([]int64, len(l)), make([]*big.Int, len(l))
	lacks := int64(1 << 14)
	for i, w := range l {
		share := new(big.Int).Lsh(long(w), 14)
		floor, rest := new(big.Int).DivMod(share, whole, new(big.Int))
		taps[i], rests[i] = floor.Int64(), rest
		lacks -= taps[i]
	}
	given := make([]bool, len(l))
	for ; lacks > 0; lacks-- {
		best := -1
		for i := range l {
			if !given[i] && (best < 0 || rests[i].Cmp(rests[best]) > 0) {
				best = i
			}
		}
		given[best] = true
		taps[best]++
	}
	return taps, api.OK
}

// toldUser: the chapter's words over unbounded integers.
func toldUser(l []int64) ([]int64, api.Code) {
	size := new(big.Int)
	for _, w := range l {
		size.Add(size, new(big.Int).Abs(long(w)))
	}
	if len(l)%2 == 0 || len(l) > 1024 || size.Sign() == 0 || size.Cmp(long(1<<20)) > 0 {
		return nil, api.BadKernel
	}
	raws := make([]int64, len(l))
	for i, w := range l {
		// A half more, downwards.
		x := new(big.Int).Lsh(long(w), 31)
		x.Add(x, size).Div(x, new(big.Int).Lsh(size, 1))
		raws[i] = x.Int64()
	}
	return raws, api.OK
}

// numbers: a list of so many, made by a rule of their places.
func numbers(count int, rule func(i int64) int64) []int64 {
	l := make([]int64, count)
	for i := range l {
		l[i] = rule(int64(i))
	}
	return l
}

// same: a list of so many of one number.
func same(x int64, count int) []int64 { return slices.Repeat([]int64{x}, count) }

// scattered: a number below 2 to the n, without sign, of any sign, and as it were by chance.
func scattered(i, n int64) int64 {
	x := uint64(i)*0x9e3779b97f4a7c15 + 0x632be59bd9b4e019
	x = (x ^ x>>29) * 0xbf58476d1ce4e5b9
	return int64(x^x>>32) >> (63 - n)
}

// few: all lists of up to three of these numbers.
func few(l []int64) [][]int64 {
	all := [][]int64{nil}
	for first := 0; len(all[first]) < 3; first++ {
		for _, x := range l {
			all = append(all, append(slices.Clone(all[first]), x))
		}
	}
	return all
}

// told: is an answer just the one wanted? Beside a code there are none.
func told(got []int64, e api.Code, want []int64, code api.Code) bool {
	return e == code && slices.Equal(got, want) && (e == api.OK || got == nil)
}

// P6.1: the sum, held at each step.
func TestSum(t *testing.T) {
	for _, c := range []struct {
		l    []int64
		want int64
	}{
		{nil, 0}, {[]int64{}, 0}, {[]int64{0}, 0}, {[]int64{7}, 7}, {[]int64{-7}, -7}, {[]int64{3, -4}, -1}, {[]int64{1, 2, 3, 4}, 10}, {[]int64{-3, 0, 3}, 0},
		{[]int64{greatest}, greatest}, {[]int64{least}, least}, {[]int64{greatest, least}, -1}, {[]int64{least, greatest}, -1},
		// Held on the way: the end goes on from there.
		{[]int64{greatest, 1}, greatest}, {[]int64{greatest, 1, -1}, greatest - 1}, {[]int64{greatest, -1, 1}, greatest}, {[]int64{-1, greatest, 1}, greatest}, {[]int64{greatest, greatest, least}, -1}, {[]int64{greatest, greatest, greatest, -5}, greatest - 5}, {[]int64{1 << 62, 1 << 62, -1 << 62}, 1<<62 - 1},
		{[]int64{least, -1}, least}, {[]int64{least, -1, 1}, least + 1}, {[]int64{least, 1, -1}, least}, {[]int64{1, least, -1}, least}, {[]int64{least, least, greatest}, -1}, {[]int64{least, least, least, 5}, least + 5}, {[]int64{-1 << 62, -1 << 62, -1, 1 << 62}, -1 << 62},
		{[]int64{greatest, 1, least, least, 1}, least + 1}, {[]int64{least, -1, greatest, greatest, -1}, greatest - 2},
	} {
		if got := Sum(c.l); got != c.want {
			t.Errorf("of %d: %d, not %d", c.l, got, c.want)
		}
	}
	checkHeld(t, Sum, true)
}

// P6.1: the sum without sign, held.
func TestSize(t *testing.T) {
	for _, c := range []struct {
		l    []int64
		want int64
	}{
		{nil, 0}, {[]int64{}, 0}, {[]int64{0}, 0}, {[]int64{0, 0}, 0}, {[]int64{7}, 7}, {[]int64{-7}, 7}, {[]int64{-3, 4}, 7}, {[]int64{3, -4}, 7}, {[]int64{-1, -2, -3}, 6}, {[]int64{5, -5}, 10},
		{[]int64{greatest}, greatest}, {[]int64{-greatest}, greatest}, {[]int64{least}, greatest}, {[]int64{least + 2}, greatest - 1}, {[]int64{least, least}, greatest}, {[]int64{least, 1}, greatest}, {[]int64{1, least}, greatest}, {[]int64{least, -1}, greatest}, {[]int64{0, least, 0}, greatest},
		{[]int64{greatest, 1}, greatest}, {[]int64{greatest, -1}, greatest}, {[]int64{greatest - 1, -1}, greatest}, {[]int64{greatest - 2, -1}, greatest - 1}, {[]int64{greatest, least}, greatest}, {[]int64{1 << 62, -1 << 62}, greatest}, {[]int64{1 << 62, 1 - 1<<62}, greatest}, {[]int64{greatest, greatest, 2}, greatest},
	} {
		if got := Size(c.l); got != c.want {
			t.Errorf("of %d: %d, not %d", c.l, got, c.want)
		}
	}
	checkHeld(t, Size, false)
}

func checkHeld(t *testing.T, f func([]int64) int64, sign bool) {
	t.Helper()
	for _, l := range few([]int64{0, 1, -1, 2, -2, 1000, 1 << 32, 1 << 62, -1 << 62, 1<<62 - 1, greatest, greatest - 1, least, least + 1, least + 2}) {
		if got, want := f(l), toldSum(l, sign); got != want {
			t.Fatalf("of %d: %d, not %d", l, got, want)
		}
	}
	for n := int64(1); n <= 63; n++ {
		l := numbers(100, func(i int64) int64 { return scattered(i, n) })
		if got, want := f(l), toldSum(l, sign); got != want {
			t.Fatalf("of %d: %d, not %d", l, got, want)
		}
	}
}

// P6.1: the taps of ordinary raw weights, of 0 and below 0 too, and to whom what lacks goes.
func TestApportion(t *testing.T) {
	for _, c := range []struct{ l, want []int64 }{
		{[]int64{1 << 28}, []int64{16384}}, {[]int64{1 << 30}, []int64{16384}}, {[]int64{top}, []int64{16384}}, {[]int64{1<<28 + 1}, []int64{16384}},
		{[]int64{1 << 28, 1 << 28}, []int64{8192, 8192}}, {[]int64{1 << 28, 1 << 29, 1 << 28}, []int64{4096, 8192, 4096}},
		// 0 and below 0.
		{[]int64{0, 1 << 28, 0}, []int64{0, 16384, 0}}, {[]int64{1 << 28, -1 << 26, 1 << 28}, []int64{9362, -2340, 9362}}, {[]int64{-1 << 28, 1 << 29}, []int64{-16384, 32768}}, {[]int64{-1, 1<<28 + 1}, []int64{0, 16384}}, {[]int64{0, 1 << 29, 0, 1 << 29, 1 << 29, 0}, []int64{0, 5462, 0, 5461, 5461, 0}},
		{[]int64{-25165824, 243269632, 931135488, -75497472}, []int64{-384, 3712, 14208, -1152}},
		// Sevenths: the greatest rest isn't the greatest weight's, nor is it ahead.
		{[]int64{1 << 28, 1 << 29, 1 << 29, 1 << 29}, []int64{2341, 4681, 4681, 4681}}, {[]int64{1 << 29, 1 << 29, 1 << 29, 1 << 28}, []int64{4681, 4681, 4681, 2341}},
		// Equal rests: the ones ahead get what lacks.
		{[]int64{1 << 29, 1 << 29, 1 << 29}, []int64{5462, 5461, 5461}}, {same(1<<28, 5), []int64{3277, 3277, 3277, 3277, 3276}}, {same(1<<28, 6), []int64{2731, 2731, 2731, 2731, 2730, 2730}}, {same(1<<28, 7), []int64{2341, 2341, 2341, 2341, 2340, 2340, 2340}},
		{[]int64{1 << 28, 1 << 29, 1 << 28, 1 << 28, 1 << 29}, []int64{2341, 4681, 2341, 2340, 4681}}, {[]int64{1 << 29, 1 << 28, 1 << 29, 1 << 28, 1 << 28}, []int64{4681, 2341, 4681, 2341, 2340}},
		// Equal rests of unlike weights.
		{[]int64{1 << 28, 1<<28 + 3<<14, 1<<28 - 3<<14}, []int64{5462, 5462, 5460}}, {[]int64{1<<28 - 3<<14, 1<<28 + 3<<14, 1 << 28}, []int64{5461, 5462, 5461}}, {[]int64{1<<28 + 3<<14, 1 << 28, 1<<28 - 3<<14}, []int64{5463, 5461, 5460}},
		{[]int64{-1 << 28, 1 << 30, 0}, []int64{-5461, 21845, 0}}, {[]int64{-1 << 28, -1 << 28, 5 << 28}, []int64{-5461, -5461, 27306}}, {[]int64{5 << 28, -1 << 28, -1 << 28}, []int64{27307, -5461, -5462}},
	} {
		if got, e := Apportion(c.l); !told(got, e, c.want, api.OK) {
			t.Errorf("of %d: %d and %d, not %d", c.l, got, e, c.want)
		}
	}
	for _, l := range few([]int64{0, 1, -1, 2, 1 << 14, -1 << 26, 1 << 27, enough - 1, enough, enough + 1, -enough, 3 << 28, unit, unit/3 + 1, -unit, top - 1, top, top + 1, -top, -1 - top, greatest, least}) {
		checkTold(t, l)
	}
	for count := 1; count <= 40; count++ {
		checkTold(t, same(unit, count))
		for n := int64(26); n <= 40; n++ {
			checkTold(t, numbers(count, func(i int64) int64 { return scattered(i+n*100, n) }))
			// Few unlike weights: many equal rests.
			checkTold(t, numbers(count, func(i int64) int64 { return 1<<(n-2) + scattered(i, 2)<<(n-4) }))
		}
	}
}

func checkTold(t *testing.T, l []int64) {
	t.Helper()
	got, e := Apportion(l)
	if want, code := toldApportion(l); !told(got, e, want, code) {
		t.Fatalf("of %d: %d and %d, not %d and %d", l, got, e, want, code)
	}
}

// coded: numbers, and the code that they are to have.
type coded struct {
	l    []int64
	want api.Code
}

func checkCodes(t *testing.T, f func([]int64) ([]int64, api.Code), all []coded) {
	t.Helper()
	for _, c := range all {
		got, e := f(c.l)
		if e != c.want || (e != api.OK) != (got == nil) {
			t.Errorf("of %d ahead of %d: %d, not %d", c.l[:min(len(c.l), 5)], len(c.l), e, c.want)
		}
	}
}

// P6.1: BadKernel's grounds, then Degenerate's.
func TestApportionCodes(t *testing.T) {
	over := same(1<<28, crowd+1)
	checkCodes(t, Apportion, []coded{
		{nil, api.BadKernel}, {[]int64{}, api.BadKernel}, {same(1<<28, crowd), api.OK}, {over, api.BadKernel}, {append(over, over...), api.BadKernel},
		// 2^40, one more, and these below 0.
		{[]int64{top}, api.OK}, {[]int64{top + 1}, api.BadKernel}, {[]int64{top, -top + enough}, api.OK}, {[]int64{-top, top, enough}, api.OK}, {[]int64{enough, top, -1 - top}, api.BadKernel}, {[]int64{-1 - top, top, top}, api.BadKernel}, {[]int64{top, top, -1 - top}, api.BadKernel},
		{[]int64{least}, api.BadKernel}, {[]int64{greatest}, api.BadKernel}, {[]int64{least, top, top}, api.BadKernel}, {[]int64{top, top, greatest}, api.BadKernel}, {[]int64{greatest, least, enough + 1}, api.BadKernel}, {[]int64{least, least, enough}, api.BadKernel}, {[]int64{1 << 62, 1 << 62, 1 << 62, 1 << 62, enough}, api.BadKernel},
		// The sum: 2^28, one less, 0 and below.
		{[]int64{enough}, api.OK}, {[]int64{enough - 1}, api.Degenerate}, {[]int64{enough - 1, 1}, api.OK}, {[]int64{enough, -1}, api.Degenerate}, {[]int64{enough + 1, -1}, api.OK}, {[]int64{0}, api.Degenerate}, {[]int64{0, 0, 0}, api.Degenerate}, {[]int64{1}, api.Degenerate}, {[]int64{-1}, api.Degenerate}, {[]int64{1, -1}, api.Degenerate}, {[]int64{-enough}, api.Degenerate}, {[]int64{top, -top}, api.Degenerate}, {[]int64{top, -top, enough - 1}, api.Degenerate}, {[]int64{-top}, api.Degenerate}, {[]int64{unit, -unit, -unit}, api.Degenerate}, {same(-top, crowd), api.Degenerate}, {same(0, crowd), api.Degenerate}, {same(255, crowd), api.Degenerate}, {same(256, crowd), api.OK},
		// Both grounds together.
		{[]int64{-1 - top}, api.BadKernel}, {[]int64{-top, least}, api.BadKernel}, {[]int64{top, least}, api.BadKernel}, {[]int64{0, 0, least}, api.BadKernel}, {[]int64{top + 1, -1 - top}, api.BadKernel}, {same(0, crowd+1), api.BadKernel}, {same(-top, crowd+1), api.BadKernel}, {same(least, crowd), api.BadKernel},
	})
}

// P6.3: taps come to 2^14, each is less than 1 away from its share, and they are in the order of the weights.
func TestShares(t *testing.T) {
	for _, count := range []int{1, 2, 3, 7, 100, 1023, 1 << 14, 1<<14 + 1, 30011} {
		mean := enough/int64(count) + 1
		checkShares(t, same(mean, count))
		checkShares(t, same(top, count))
		checkShares(t, numbers(count, func(i int64) int64 { return mean + i%7 }))
		checkShares(t, numbers(count, func(i int64) int64 { return top - i*i }))
		for _, n := range []int64{12, 28, 39, 40} {
			l := numbers(count, func(i int64) int64 { return scattered(i, n) })
			// Their sum is by chance: it is put right; or they are taken without sign.
			checkShares(t, raised(l, enough+int64(count)%5))
			checkShares(t, numbers(count, func(i int64) int64 { return mean + max(l[i], -l[i])/2 }))
		}
	}
	checkShares(t, numbers(crowd, func(i int64) int64 { return top - i }))
	checkShares(t, raised(numbers(crowd, func(i int64) int64 { return scattered(i, 40) }), enough+1))
}

// raised: so that their sum is this one, and each is at most 2^40 without sign.
func raised(l []int64, sum int64) []int64 {
	l = slices.Clone(l)
	lacks := sum - Sum(l)
	for i := len(l) - 1; i >= 0 && lacks != 0; i-- {
		part := min(max(lacks, -top-l[i]), top-l[i])
		l[i] += part
		lacks -= part
	}
	return l
}

func checkShares(t *testing.T, l []int64) {
	t.Helper()
	whole := Sum(l)
	taps, e := Apportion(l)
	if e != api.OK || len(taps) != len(l) || Sum(taps) != 1<<14 {
		t.Fatalf("%d ahead of %d: %d, %d taps, which come to %d", l[:min(len(l), 5)], len(l), e, len(taps), Sum(taps))
	}
	order := make([][3]int64, len(l))
	for i, w := range l {
		// Downwards; with no rest the share is the tap itself.
		share := w << 14
		floor := share / whole
		if floor*whole > share {
			floor--
		}
		if taps[i] != floor && (taps[i] != floor+1 || floor*whole == share) {
			t.Fatalf("%d, of a sum of %d: %d", w, whole, taps[i])
		}
		// Of equal weights those behind are as the lesser ones.
		order[i] = [3]int64{w, int64(-i), taps[i]}
	}
	slices.SortFunc(order, func(a, b [3]int64) int { return cmp.Or(cmp.Compare(a[0], b[0]), cmp.Compare(a[1], b[1])) })
	for i := 1; i < len(order); i++ {
		if order[i][2] < order[i-1][2] {
			t.Fatalf("of %d and %d: %d and %d", order[i-1][0], order[i][0], order[i-1][2], order[i][2])
		}
	}
}

// P6.3: what lacks goes to the ones ahead, of as many as there may be.
func TestMany(t *testing.T) {
	taps, e := Apportion(same(256, crowd))
	if want := append(same(1, 1<<14), same(0, crowd-1<<14)...); !told(taps, e, want, api.OK) {
		t.Error(e, len(taps))
	}
	// Those with a rest stand behind the others.
	l := append(same(0, crowd/2), same(512, crowd/2)...)
	taps, e = Apportion(l)
	if want := append(append(same(0, crowd/2), same(1, 1<<14)...), same(0, crowd/2-1<<14)...); !told(taps, e, want, api.OK) {
		t.Error(e, len(taps))
	}
}

// P6.2: the raw weights of a user's kernel.
func TestUser(t *testing.T) {
	for _, c := range []struct{ l, want []int64 }{
		{[]int64{1}, []int64{unit}}, {[]int64{-1}, []int64{-unit}}, {[]int64{7}, []int64{unit}}, {[]int64{1, 2, 1}, []int64{1 << 28, 1 << 29, 1 << 28}}, {[]int64{0, 3, 0}, []int64{0, unit, 0}}, {[]int64{-1, 2, -1}, []int64{-1 << 28, 1 << 29, -1 << 28}}, {[]int64{0, -1, 1}, []int64{0, -1 << 29, 1 << 29}},
		// The nearest number, above 0 and below.
		{[]int64{1, 1, 1}, []int64{357913941, 357913941, 357913941}}, {[]int64{2, 1, 0}, []int64{715827883, 357913941, 0}}, {[]int64{-2, 1, 0}, []int64{-715827883, 357913941, 0}}, {[]int64{-1, 2, 0}, []int64{-357913941, 715827883, 0}}, {[]int64{1, 2, 3, -4, -5}, []int64{71582788, 143165577, 214748365, -286331153, -357913941}},
		// The greatest Size.
		{[]int64{1 << 20}, []int64{unit}}, {[]int64{-1 << 20}, []int64{-unit}}, {[]int64{1<<20 - 2, 1, 1}, []int64{unit - 2048, 1024, 1024}}, {[]int64{1, -1 << 19, 1<<19 - 1}, []int64{1024, -1 << 29, 1<<29 - 1024}}, {[]int64{1<<20 - 2, 0, -1}, []int64{unit - 1024, 0, -1024}},
	} {
		if got, e := User(c.l); !told(got, e, c.want, api.OK) {
			t.Errorf("of %d: %d and %d, not %d", c.l, got, e, c.want)
		}
	}
	for _, l := range few([]int64{0, 1, -1, 2, 3, -5, 1000, 1<<19 - 1, 1 << 19, -1 << 19, 1<<20 - 1, 1 << 20, 1<<20 + 1, -1 << 20, greatest, least, least + 1}) {
		checkUser(t, l)
	}
	for _, count := range []int{1, 3, 5, 99, 511, 1021, 1022, 1023, 1024, 1025, 1026, 1027, 2047} {
		checkUser(t, same(1, count))
		checkUser(t, same(-1, count))
		checkUser(t, same(0, count))
		checkUser(t, same(1<<10, count))
		for n := int64(1); n <= 12; n++ {
			checkUser(t, numbers(count, func(i int64) int64 { return scattered(i, n) }))
		}
	}
}

func checkUser(t *testing.T, l []int64) {
	t.Helper()
	got, e := User(l)
	if want, code := toldUser(l); !told(got, e, want, code) {
		t.Fatalf("of %d: %d and %d, not %d and %d", l, got, e, want, code)
	}
}

// P6.2: BadKernel of a user's kernel.
func TestUserCodes(t *testing.T) {
	checkCodes(t, User, []coded{
		// The count: none, even ones, and the most.
		{nil, api.BadKernel}, {[]int64{}, api.BadKernel}, {[]int64{1, 1}, api.BadKernel}, {[]int64{1, 2, 2, 1}, api.BadKernel}, {same(1, 1022), api.BadKernel}, {same(1, 1023), api.OK}, {same(1, 1024), api.BadKernel}, {same(1, 1025), api.BadKernel}, {same(1, 1027), api.BadKernel}, {same(1, 1<<20-1), api.BadKernel}, {same(0, 1024), api.BadKernel}, {same(least, 1024), api.BadKernel},
		// The Size: 0, 2^20, and one more.
		{[]int64{0}, api.BadKernel}, {[]int64{0, 0, 0}, api.BadKernel}, {same(0, 1023), api.BadKernel}, {[]int64{1 << 20}, api.OK}, {[]int64{1<<20 + 1}, api.BadKernel}, {[]int64{-1 << 20}, api.OK}, {[]int64{-1<<20 - 1}, api.BadKernel}, {[]int64{1 << 20, 0, 1}, api.BadKernel}, {[]int64{1 << 20, 0, -1}, api.BadKernel}, {[]int64{1 << 20, -1, 0}, api.BadKernel}, {append(same(1024, 1022), 2048), api.OK}, {append(same(-1024, 1022), 2049), api.BadKernel},
		// A sum that is 0 or below isn't asked for here.
		{[]int64{1, 0, -1}, api.OK}, {[]int64{-1, -1, -1}, api.OK},
		// Sizes that would go round.
		{[]int64{least}, api.BadKernel}, {[]int64{greatest}, api.BadKernel}, {[]int64{least, least, 1}, api.BadKernel}, {[]int64{greatest, greatest, 3}, api.BadKernel}, {[]int64{least, greatest, 2}, api.BadKernel}, {[]int64{1 << 62, 1 << 62, 1 << 62, 1 << 62, 5}, api.BadKernel}, {[]int64{0, 1<<32 + 1, 0}, api.BadKernel},
	})
}

// P6.2: how many weights a sigma has: where three of it are whole samples, and just beside.
func TestGaussianRadius(t *testing.T) {
	for _, c := range []struct {
		sigma int64
		count int
	}{
		{1, 3}, {2, 3}, {256, 3}, {21844, 3}, {21845, 3}, {21846, 5}, {43690, 5}, {43691, 7}, {1 << 15, 5},
		{1<<16 - 1, 7}, {1 << 16, 7}, {1<<16 + 1, 9}, {2<<16 - 1, 13}, {2 << 16, 13}, {2<<16 + 1, 15}, {100003, 11}, {10<<16 - 1, 61}, {10 << 16, 61}, {10<<16 + 1, 63},
		{63 << 16, 379}, {63<<16 + 1, 381}, {1<<22 - 21846, 383}, {1<<22 - 21845, 385}, {1<<22 - 1, 385}, {1 << 22, 385},
	} {
		if l, e := Gaussian(c.sigma); e != api.OK || len(l) != c.count {
			t.Errorf("of %d: %d weights, %d", c.sigma, len(l), e)
		}
	}
	for _, sigma := range []int64{0, -1, -2, -1 << 16, -1 << 22, 1<<22 + 1, 1<<22 + 21846, 1 << 23, 1 << 32, 1<<32 + 1, 1<<32 + 1<<16, 1 << 62, -1 << 62, greatest/3 + 1, -greatest/3 - 1, greatest, greatest - 1, least, least + 1} {
		if l, e := Gaussian(sigma); l != nil || e != api.BadKernel {
			t.Errorf("of %d: %d and %d", sigma, l, e)
		}
	}
}

// P6.2: a sigma's weights: Gauss of the distances, from the radius below 0 to it above.
func TestGaussian(t *testing.T) {
	for _, c := range []struct {
		sigma int64
		want  []int64
	}{
		{1, []int64{0, unit, 0}}, {1 << 15, []int64{360200, 145315154, unit, 145315154, 360200}}, {1 << 16, []int64{11928194, 145315154, 651257337, unit, 651257337, 145315154, 11928194}},
	} {
		if l, e := Gaussian(c.sigma); !told(l, e, c.want, api.OK) {
			t.Errorf("of %d: %d and %d, not %d", c.sigma, l, e, c.want)
		}
	}
	for _, sigma := range sigmas() {
		l, e := Gaussian(sigma)
		radius := int64(0)
		for radius<<16 < 3*sigma {
			radius++
		}
		want := numbers(int(2*radius+1), func(i int64) int64 { return expo.Gauss(i-radius, sigma) })
		if !told(l, e, want, api.OK) {
			t.Fatalf("of %d: %d and %d, not %d", sigma, l, e, want)
		}
	}
}

// sigmas: those by which the radius changes, all with those beside them, and some in between.
func sigmas() []int64 {
	l := []int64{1, 2, 3, 1 << 22}
	for r := int64(1); r <= 192; r++ {
		edge := r << 16 / 3
		for _, sigma := range []int64{edge - 1, edge, edge + 1, edge + 2, edge + 9999} {
			if sigma <= 1<<22 {
				l = append(l, sigma)
			}
		}
	}
	return l
}

// P6.2: a radius's weights, all the same.
func TestBlur(t *testing.T) {
	for _, c := range []struct {
		radius int
		want   []int64
	}{
		{0, []int64{unit}}, {1, same(357913941, 3)}, {2, same(214748365, 5)}, {3, same(153391689, 7)}, {510, same(1051657, 1021)}, {511, same(1049601, 1023)},
	} {
		if l, e := Blur(c.radius); !told(l, e, c.want, api.OK) {
			t.Errorf("of %d: %d and %d, not %d", c.radius, l, e, c.want)
		}
	}
	for radius := 0; radius <= 511; radius++ {
		l, e := Blur(radius)
		if want, code := toldUser(same(1, 2*radius+1)); !told(l, e, want, code) || e != api.OK {
			t.Fatalf("of %d: %d and %d, not %d", radius, l, e, want)
		}
	}
	for _, radius := range []int{-1, -2, -511, -512, 512, 513, 1023, 1 << 20, 1 << 32, 1<<32 + 1, 1 << 62, 1<<63 - 1, -1 << 62, 1 - 1<<62, math.MaxInt - 1, math.MinInt, math.MinInt + 1} {
		if l, e := Blur(radius); l != nil || e != api.BadKernel {
			t.Errorf("of %d: %d and %d", radius, l, e)
		}
	}
}

// P6.3: the taps of all blurs, and of Gauss's weights, come to 2^14.
func TestKernelShares(t *testing.T) {
	for radius := 0; radius <= 511; radius++ {
		l, _ := Blur(radius)
		checkShares(t, l)
	}
	for _, sigma := range sigmas() {
		l, _ := Gaussian(sigma)
		checkShares(t, l)
	}
	l, _ := User([]int64{-1, 2, 7, 2, -1})
	checkShares(t, l)
}

// P6.3: what is handed in stays as it was, its spare room too, and isn't kept; answers are new memory.
func TestMemory(t *testing.T) {
	checkMemory(t, Apportion, []int64{1 << 28, 3, -1 << 26, 1 << 28, 1 << 28})
	checkMemory(t, Apportion, []int64{1 << 28})
	checkMemory(t, Apportion, []int64{3, top + 1, 5})
	checkMemory(t, Apportion, []int64{3, -7, 5})
	checkMemory(t, User, []int64{3, -1, 0, 4, 2})
	checkMemory(t, User, []int64{1 << 20})
	checkMemory(t, User, []int64{1, 2, 3, 4})
	checkMemory(t, func([]int64) ([]int64, api.Code) { return Gaussian(100000) }, nil)
	checkMemory(t, func([]int64) ([]int64, api.Code) { return Blur(3) }, nil)
	checkMemory(t, func(l []int64) ([]int64, api.Code) { return []int64{Sum(l), Size(l)}, api.OK }, []int64{greatest, 1, least, -4})
}

func checkMemory(t *testing.T, f func([]int64) ([]int64, api.Code), l []int64) {
	t.Helper()
	room := append(slices.Clone(l), -11, -12, -13)
	kept := slices.Clone(room)
	first, e := f(room[:len(l)])
	want := slices.Clone(first)
	if !slices.Equal(room, kept) {
		t.Errorf("what was handed in: %d, not %d", room, kept)
	}
	for i := range room {
		room[i] = -99
	}
	if !slices.Equal(first, want) {
		t.Errorf("kept: %d, not %d", first, want)
	}
	second, _ := f(l)
	for i := range first[:cap(first)] {
		first[:cap(first)][i] = -7
	}
	third, code := f(l)
	if !slices.Equal(second, want) || !slices.Equal(third, want) || code != e {
		t.Errorf("%d and %d, not %d", second, third, want)
	}
	for _, x := range room {
		if x != -99 {
			t.Errorf("an answer is in what was handed in: %d", room)
		}
	}
}
