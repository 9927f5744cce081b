package border

import (
	"math"
	"math/big"
	"slices"
	"strings"
	"testing"

	"smalto/api"
)

const (
	least    = math.MinInt64
	greatest = math.MaxInt64
	side     = api.MaxSide
)

var (
	policiesOfAll = []Policy{Clamp, Mirror, Wrap}
	notPolicies   = []Policy{-1, 3, 4, -3, 256, math.MinInt, math.MinInt + 1, math.MaxInt, math.MaxInt - 1}
	notSides      = []int64{0, -1, -2, -3, -side, side + 1, side + 2, 1 << 17, 1<<32 + 3, 1 << 62, 1<<62 + 1, -1 << 62, least, least + 1, greatest, greatest - 1}
)

// lengths: sides from the least to the greatest one, with powers of 2 and those beside them.
func lengths() []int64 {
	return []int64{1, 2, 3, 4, 5, 6, 7, 8, 9, 10, 15, 16, 17, 100, 255, 256, 257, 1000, 4095, 4096, 4097, 10007, 32767, 32768, 32769, side - 2, side - 1, side}
}

// numbers: those beside each of some sides' ends, to both sides of 0, and the ends of all numbers.
func numbers(n int64) []int64 {
	var l []int64
	for _, sides := range []int64{-1 << 40, -1001, -1000, -8, -7, -6, -5, -4, -3, -2, -1, 0, 1, 2, 3, 4, 5, 6, 7, 8, 1000, 1001, 1 << 40} {
		for off := int64(-3); off <= 3; off++ {
			l = append(l, sides*n+off)
		}
		l = append(l, sides*n+n/2, sides*n+n/3)
	}
	for off := range int64(9) {
		l = append(l, least+off, greatest-off, 1<<62+off, -1<<62-off, 1<<31+off, -1<<31-off, 1<<32+off, -1<<32-off)
	}
	for off := int64(-2); off <= 2; off++ {
		l = append(l, least+n+off+2, least+2*n+off+2, greatest-n+off, greatest-2*n+off)
	}
	return l
}

// again: what a policy says again and again, written out from 0 on.
func again(p Policy, n int64) []int64 {
	var l []int64
	for i := range n {
		l = append(l, i)
	}
	if p == Mirror {
		back := slices.Clone(l)
		slices.Reverse(back)
		l = append(l, back...)
	}
	return l
}

// told: the chapter's words of a policy and a side that there are, over unbounded integers; l is again's.
func told(p Policy, l []int64, j, n int64) int64 {
	if p == Clamp {
		switch {
		case j < 0:
			return 0
		case j > n-1:
			return n - 1
		}
		return j
	}
	// big's Mod leaves a rest that isn't below 0.
	at := new(big.Int).Mod(big.NewInt(j), big.NewInt(int64(len(l))))
	return l[at.Int64()]
}

// every hands each policy, side and number to a test, with what is told of them, until it finds a fault.
func every(t *testing.T, ok func(p Policy, j, n, want int64) bool) {
	t.Helper()
	for _, p := range policiesOfAll {
		for _, n := range lengths() {
			l := again(p, n)
			for _, j := range numbers(n) {
				if !ok(p, j, n, told(p, l, j, n)) {
					t.Fatalf("%d of %d, a side of %d: %d", p, j, n, At(p, j, n))
				}
			}
		}
	}
}

// P7.1: the policies' numbers.
func TestPolicies(t *testing.T) {
	if Clamp != 0 || Mirror != 1 || Wrap != 2 {
		t.Error(Clamp, Mirror, Wrap)
	}
}

type one struct {
	p          Policy
	j, n, want int64
}

func table(t *testing.T, l []one) {
	t.Helper()
	for _, c := range l {
		if got := At(c.p, c.j, c.n); got != c.want {
			t.Errorf("%d of %d, a side of %d: %d, not %d", c.p, c.j, c.n, got, c.want)
		}
	}
}

// P7.1: 0 below 0, n - 1 above it.
func TestClamp(t *testing.T) {
	table(t, []one{
		{Clamp, -9, 3, 0}, {Clamp, 9, 3, 2},
		{Clamp, 0, 3, 0}, {Clamp, 1, 3, 1}, {Clamp, 2, 3, 2}, {Clamp, -1, 3, 0}, {Clamp, 3, 3, 2}, {Clamp, 4, 3, 2}, {Clamp, -2, 3, 0},
		{Clamp, -3, 3, 0}, {Clamp, -4, 3, 0}, {Clamp, 5, 3, 2}, {Clamp, 6, 3, 2}, {Clamp, 7, 3, 2}, {Clamp, -6, 3, 0}, {Clamp, 300, 3, 2}, {Clamp, -300, 3, 0},
		{Clamp, 0, 1, 0}, {Clamp, 1, 1, 0}, {Clamp, -1, 1, 0}, {Clamp, 0, 2, 0}, {Clamp, 1, 2, 1}, {Clamp, 2, 2, 1}, {Clamp, -1, 2, 0},
		{Clamp, side - 2, side - 1, side - 2}, {Clamp, side - 1, side - 1, side - 2}, {Clamp, -1, side - 1, 0},
		{Clamp, side - 1, side, side - 1}, {Clamp, side, side, side - 1}, {Clamp, side + 1, side, side - 1}, {Clamp, -1, side, 0}, {Clamp, 40000, side, 40000},
		{Clamp, least, 1, 0}, {Clamp, greatest, 1, 0}, {Clamp, least, 3, 0}, {Clamp, greatest, 3, 2}, {Clamp, least, side, 0}, {Clamp, greatest, side, side - 1},
	})
}

// P7.1: the samples, then backwards, again and again, to both sides; the edge sample stands twice.
func TestMirror(t *testing.T) {
	table(t, []one{
		{Mirror, -1, 3, 0}, {Mirror, -4, 3, 2}, {Mirror, 3, 3, 2},
		{Mirror, 0, 3, 0}, {Mirror, 1, 3, 1}, {Mirror, 2, 3, 2},
		// Beside n, twice n, and thrice.
		{Mirror, 4, 3, 1}, {Mirror, 5, 3, 0}, {Mirror, 6, 3, 0}, {Mirror, 7, 3, 1}, {Mirror, 8, 3, 2}, {Mirror, 9, 3, 2}, {Mirror, 10, 3, 1},
		{Mirror, -2, 3, 1}, {Mirror, -3, 3, 2}, {Mirror, -5, 3, 1}, {Mirror, -6, 3, 0}, {Mirror, -7, 3, 0}, {Mirror, -8, 3, 1},
		// Sides further off.
		{Mirror, 300, 3, 0}, {Mirror, 303, 3, 2}, {Mirror, -300, 3, 0}, {Mirror, -303, 3, 2}, {Mirror, -301, 3, 0}, {Mirror, 299, 3, 0},
		{Mirror, 0, 1, 0}, {Mirror, 1, 1, 0}, {Mirror, -1, 1, 0}, {Mirror, 2, 1, 0}, {Mirror, 1 << 40, 1, 0},
		{Mirror, 0, 2, 0}, {Mirror, 1, 2, 1}, {Mirror, 2, 2, 1}, {Mirror, 3, 2, 0}, {Mirror, 4, 2, 0}, {Mirror, 5, 2, 1}, {Mirror, -1, 2, 0}, {Mirror, -2, 2, 1}, {Mirror, -3, 2, 1}, {Mirror, -4, 2, 0},
		{Mirror, side - 1, side - 1, side - 2}, {Mirror, side, side - 1, side - 3}, {Mirror, 2*side - 3, side - 1, 0}, {Mirror, 2*side - 2, side - 1, 0}, {Mirror, -side + 1, side - 1, side - 2}, {Mirror, -side, side - 1, side - 2},
		{Mirror, side - 1, side, side - 1}, {Mirror, side, side, side - 1}, {Mirror, side + 1, side, side - 2}, {Mirror, 2*side - 1, side, 0}, {Mirror, 2 * side, side, 0}, {Mirror, 2*side + 1, side, 1}, {Mirror, -side, side, side - 1}, {Mirror, -side - 1, side, side - 1}, {Mirror, -2 * side, side, 0}, {Mirror, -2*side - 1, side, 0},
		// 2^63 by 6 leaves 2, so least is as 4 and greatest as 1; twice 2^16 divides it.
		{Mirror, least, 1, 0}, {Mirror, greatest, 1, 0}, {Mirror, least, 2, 0}, {Mirror, greatest, 2, 0}, {Mirror, least, 3, 1}, {Mirror, greatest, 3, 1}, {Mirror, least, side, 0}, {Mirror, greatest, side, 0},
	})
}

// P7.1: the samples again and again, to both sides.
func TestWrap(t *testing.T) {
	table(t, []one{
		{Wrap, -1, 3, 2}, {Wrap, 3, 3, 0},
		{Wrap, 0, 3, 0}, {Wrap, 1, 3, 1}, {Wrap, 2, 3, 2},
		// Beside n, twice n, and thrice.
		{Wrap, 4, 3, 1}, {Wrap, 5, 3, 2}, {Wrap, 6, 3, 0}, {Wrap, 7, 3, 1}, {Wrap, 8, 3, 2}, {Wrap, 9, 3, 0},
		{Wrap, -2, 3, 1}, {Wrap, -3, 3, 0}, {Wrap, -4, 3, 2}, {Wrap, -5, 3, 1}, {Wrap, -6, 3, 0}, {Wrap, -7, 3, 2},
		// Sides further off.
		{Wrap, 300, 3, 0}, {Wrap, 301, 3, 1}, {Wrap, -300, 3, 0}, {Wrap, -301, 3, 2},
		{Wrap, 0, 1, 0}, {Wrap, 1, 1, 0}, {Wrap, -1, 1, 0}, {Wrap, 0, 2, 0}, {Wrap, 1, 2, 1}, {Wrap, 2, 2, 0}, {Wrap, 3, 2, 1}, {Wrap, -1, 2, 1}, {Wrap, -2, 2, 0}, {Wrap, -3, 2, 1},
		{Wrap, side - 2, side - 1, side - 2}, {Wrap, side - 1, side - 1, 0}, {Wrap, side, side - 1, 1}, {Wrap, -1, side - 1, side - 2}, {Wrap, -side, side - 1, side - 2},
		{Wrap, side - 1, side, side - 1}, {Wrap, side, side, 0}, {Wrap, side + 1, side, 1}, {Wrap, 2*side - 1, side, side - 1}, {Wrap, 2 * side, side, 0}, {Wrap, -1, side, side - 1}, {Wrap, -side, side, 0}, {Wrap, -side - 1, side, side - 1}, {Wrap, -2 * side, side, 0},
		// 2^63 by 3 leaves 2, so least is as 1 and greatest as 1.
		{Wrap, least, 1, 0}, {Wrap, greatest, 1, 0}, {Wrap, least, 2, 0}, {Wrap, greatest, 2, 1}, {Wrap, least, 3, 1}, {Wrap, greatest, 3, 1}, {Wrap, least, side, 0}, {Wrap, greatest, side, side - 1},
	})
}

// P7.1: each policy of each side, against the chapter's words.
func TestAt(t *testing.T) {
	every(t, func(p Policy, j, n, want int64) bool { return At(p, j, n) == want })
}

// P7.1: sample by sample, up from 0 and down from it; no quotient is asked for what stands next.
func TestAtWalked(t *testing.T) {
	for n := int64(1); n <= 20; n++ {
		wrapped, mirrored, back := int64(0), int64(0), false
		for j := range 6 * n {
			if x := At(Wrap, j, n); x != wrapped {
				t.Fatalf("Wrap of %d, of %d: %d, not %d", j, n, x, wrapped)
			}
			if x, y := At(Mirror, j, n), At(Mirror, -1-j, n); x != mirrored || y != mirrored {
				t.Fatalf("Mirror of %d and as far below 0, of %d: %d and %d, not %d", j, n, x, y, mirrored)
			}
			if x := At(Wrap, -1-j, n); x != n-1-wrapped {
				t.Fatalf("Wrap of %d, of %d: %d, not %d", -1-j, n, x, n-1-wrapped)
			}
			wrapped++
			if wrapped == n {
				wrapped = 0
			}
			switch {
			case back && mirrored == 0, !back && mirrored == n-1:
				back = !back
			case back:
				mirrored--
			default:
				mirrored++
			}
		}
	}
}

// P7.1: 0, if n is no side's, or there is no such policy.
func TestAtOfNone(t *testing.T) {
	some := []int64{0, 1, 2, 3, 5, -1, -2, -7, side - 1, side, side + 1, 1 << 40, least, least + 1, greatest, greatest - 1}
	for _, j := range some {
		for _, n := range notSides {
			for _, p := range policiesOfAll {
				if x := At(p, j, n); x != 0 {
					t.Errorf("%d of %d, no side of %d: %d", p, j, n, x)
				}
			}
		}
		for _, p := range notPolicies {
			for _, n := range append([]int64{1, 2, 3, 7, side - 1, side}, notSides...) {
				if x := At(p, j, n); x != 0 {
					t.Errorf("no policy %d of %d, of %d: %d", p, j, n, x)
				}
			}
		}
	}
}

// P7.2: from 0 to n - 1, and of those j is itself.
func TestWithin(t *testing.T) {
	every(t, func(p Policy, j, n, want int64) bool {
		x := At(p, j, n)
		return 0 <= x && x <= n-1 && (j < 0 || j > n-1 || x == j)
	})
	for _, p := range policiesOfAll {
		for _, n := range lengths() {
			for j := range n {
				if x := At(p, j, n); x != j {
					t.Fatalf("%d of %d, a side of %d: %d", p, j, n, x)
				}
			}
		}
	}
}

// P7.1: what stands for each, in order, of small sides.
func TestSpan(t *testing.T) {
	for _, c := range []struct {
		p     Policy
		first int64
		count int
		n     int64
		want  []int64
	}{
		{Clamp, -2, 7, 3, []int64{0, 0, 0, 1, 2, 2, 2}},
		{Mirror, -2, 7, 3, []int64{1, 0, 0, 1, 2, 2, 1}},
		{Wrap, -2, 7, 3, []int64{1, 2, 0, 1, 2, 0, 1}},
		{Mirror, -5, 12, 2, []int64{0, 0, 1, 1, 0, 0, 1, 1, 0, 0, 1, 1}},
		{Wrap, -3, 6, 1, []int64{0, 0, 0, 0, 0, 0}},
		{Clamp, 0, 3, 3, []int64{0, 1, 2}},
		// Just one.
		{Clamp, 5, 1, 3, []int64{2}}, {Mirror, 3, 1, 3, []int64{2}}, {Mirror, -4, 1, 3, []int64{2}}, {Wrap, -1, 1, 3, []int64{2}}, {Wrap, greatest, 1, 3, []int64{1}}, {Wrap, least, 1, 3, []int64{1}},
		// None.
		{Clamp, 1, 0, 3, nil}, {Mirror, 1, 0, 3, nil}, {Wrap, 1, 0, 3, nil}, {Clamp, 1, -1, 3, nil}, {Mirror, 1, -2, 3, nil}, {Wrap, 1, math.MinInt, 3, nil},
		{Wrap, greatest, 0, 3, nil}, {Wrap, least, -1, 3, nil}, {Mirror, least, math.MinInt, 3, nil},
		// From the least number on.
		{Clamp, least, 3, 3, []int64{0, 0, 0}}, {Mirror, least, 7, 3, []int64{1, 0, 0, 1, 2, 2, 1}}, {Wrap, least, 4, 3, []int64{1, 2, 0, 1}},
		// Up to the greatest number, and held there.
		{Clamp, greatest - 1, 4, 3, []int64{2, 2, 2, 2}},
		{Mirror, greatest - 1, 5, 3, []int64{0, 1, 1, 1, 1}}, {Mirror, greatest - 3, 4, 3, []int64{1, 0, 0, 1}},
		{Wrap, greatest - 1, 5, 3, []int64{0, 1, 1, 1, 1}}, {Wrap, greatest - 2, 3, 3, []int64{2, 0, 1}}, {Wrap, greatest, 3, side, []int64{side - 1, side - 1, side - 1}},
		// Of no side, of no policy: 0 each.
		{Wrap, 1, 3, 0, []int64{0, 0, 0}}, {Clamp, 1, 2, -1, []int64{0, 0}}, {Mirror, 1, 2, side + 1, []int64{0, 0}}, {Wrap, 1, 1, least, []int64{0}}, {Wrap, greatest, 2, greatest, []int64{0, 0}},
		{3, 1, 3, 3, []int64{0, 0, 0}}, {-1, 1, 2, 3, []int64{0, 0}}, {math.MinInt, 1, 2, 3, []int64{0, 0}}, {math.MaxInt, 1, 2, 3, []int64{0, 0}}, {3, 1, 1, 0, []int64{0}},
		{Wrap, 1, 0, 0, nil}, {Wrap, 1, -1, 0, nil}, {3, 1, 0, 3, nil}, {3, 1, -1, 3, nil}, {-1, least, math.MinInt, least, nil},
	} {
		if got := Span(c.p, c.first, c.count, c.n); !slices.Equal(got, c.want) {
			t.Errorf("%d from %d on, %d, of %d: %v, not %v", c.p, c.first, c.count, c.n, got, c.want)
		}
	}
}

// P7.1: Span, against the chapter's words over unbounded integers.
func TestSpanTold(t *testing.T) {
	for _, p := range policiesOfAll {
		for _, n := range []int64{1, 2, 3, 7, 100, side - 1, side} {
			l := again(p, n)
			for _, first := range numbers(n) {
				for _, count := range []int{1, 2, 9} {
					checkSpan(t, p, l, first, count, n)
				}
			}
			for _, first := range []int64{0, -n, -2*n - 1, -3 * side, least, greatest - 2*n - 1, greatest} {
				checkSpan(t, p, l, first, int(3*n)+5, n)
			}
		}
	}
}

func checkSpan(t *testing.T, p Policy, l []int64, first int64, count int, n int64) {
	t.Helper()
	got := Span(p, first, count, n)
	if len(got) != count {
		t.Fatalf("%d from %d on, %d, of %d: %d of them", p, first, count, n, len(got))
	}
	last := big.NewInt(greatest)
	j := big.NewInt(first)
	for k, x := range got {
		if x != told(p, l, j.Int64(), n) {
			t.Fatalf("%d from %d on, of %d: %d at place %d", p, first, n, x, k)
		}
		if j.Cmp(last) < 0 {
			j.Add(j, big.NewInt(1))
		}
	}
}

// P7.2: an answer is new memory, its spare room too.
func TestSpanIsNew(t *testing.T) {
	for _, p := range append([]Policy{3}, policiesOfAll...) {
		a, b := Span(p, -4, 12, 5), Span(p, -4, 12, 5)
		want := slices.Clone(b)
		for i := range a {
			a[i] = -77
		}
		_ = append(a, -78)
		for i := range a[:cap(a)] {
			a[:cap(a)][i] = -79
		}
		if !slices.Equal(b, want) || !slices.Equal(Span(p, -4, 12, 5), want) {
			t.Error(p)
		}
	}
}

// No call panics: of more than any promise is for there is nothing.
func TestSpanTooLong(t *testing.T) {
	for _, count := range []int{math.MaxInt, math.MaxInt - 1, math.MaxInt / 8} {
		if l := Span(Wrap, 0, count, 3); len(l) != 0 {
			t.Error(count, len(l))
		}
	}
}

// P7.1: each policy's name, none of the others.
func TestName(t *testing.T) {
	if Name(Clamp) != "clamp" || Name(Mirror) != "mirror" || Name(Wrap) != "wrap" {
		t.Error(Name(Clamp), Name(Mirror), Name(Wrap))
	}
	for _, p := range notPolicies {
		if Name(p) != "" {
			t.Error(p, Name(p))
		}
	}
}

// P7.1: the policy of each name, and true.
func TestNamed(t *testing.T) {
	for p, name := range map[Policy]string{Clamp: "clamp", Mirror: "mirror", Wrap: "wrap"} {
		if got, is := Named(name); got != p || !is {
			t.Error(name, got, is)
		}
		if got, is := Named(Name(p)); got != p || !is {
			t.Error(p, got, is)
		}
	}
}

// P7.1: of a text that is no name 0, and false.
func TestNamedOfNone(t *testing.T) {
	texts := []string{"", " ", "\x00", "clam", "lamp", "mirro", "irror", "wra", "rap", "border", "clampmirror", "clamp,mirror", "clamp mirror wrap", "mirrored", "wrapped", "clamped", "0", "1", "2", "cl\u00e4mp", "wr\xffap", "\xff"}
	for _, name := range []string{"clamp", "mirror", "wrap"} {
		texts = append(texts, strings.ToUpper(name), strings.ToUpper(name[:1])+name[1:], name+" ", " "+name, name+"\x00", "\x00"+name, name+"\n", name+name, name+"s", name[:1], name[1:], name[:len(name)-1], "|"+name, "\ufeff"+name)
	}
	for _, text := range texts {
		if p, is := Named(text); p != 0 || is {
			t.Errorf("%q: %d, %v", text, p, is)
		}
	}
}
