package clock

import (
	"math"
	"math/big"
	"math/rand"
	"slices"
	"testing"
)

const (
	least    = math.MinInt
	greatest = math.MaxInt
)

// plain: by the chapter's words, what a clock is, as a list of stamps.
type plain [][]int

func plainOf(n int) plain {
	var p plain
	for i := range n {
		var l []int
		for k := range n {
			if k == i {
				l = append(l, 1)
			} else {
				l = append(l, 0)
			}
		}
		p = append(p, l)
	}
	return p
}

func (p plain) there(i int) bool {
	for k := range p {
		if k == i {
			return true
		}
	}
	return false
}

func (p plain) now(i int) []int {
	if !p.there(i) {
		return nil
	}
	return slices.Clone(p[i])
}

func (p plain) tick(i int) []int {
	if !p.there(i) {
		return nil
	}
	was := p[i]
	l := slices.Clone(was)
	if l[i] == greatest {
		l[i] = least
	} else {
		l[i] += 1
	}
	p[i] = l
	return slices.Clone(was)
}

func (p plain) meet(i int, s []int) bool {
	if !p.there(i) || len(s) != len(p) {
		return false
	}
	for _, x := range s {
		if x < 0 {
			return false
		}
	}
	p[i] = plainJoin(p[i], s)
	return true
}

// plainJoin: of each actor the greater number, as of noughts behind the shorter one.
func plainJoin(a, b []int) []int {
	a, b = slices.Clone(a), slices.Clone(b)
	for len(a) < len(b) {
		a = append(a, 0)
	}
	for len(b) < len(a) {
		b = append(b, 0)
	}
	for i := range a {
		if b[i] > a[i] {
			a[i] = b[i]
		}
	}
	return a
}

// relation: by the chapter's words, of unbounded numbers, what two stamps are to each other.
type relation struct{ ahead, behind, apart, equal bool }

func plainRelation(a, b []int) relation {
	if len(a) != len(b) {
		return relation{}
	}
	above, below := false, false
	for i := range a {
		switch big.NewInt(int64(a[i])).Cmp(big.NewInt(int64(b[i]))) {
		case 1:
			above = true
		case -1:
			below = true
		}
	}
	return relation{!above && below, above && !below, above && below, !above && !below}
}

// toldRelation: what the calls tell, both ways round.
func toldRelation(t *testing.T, a, b Stamp) relation {
	t.Helper()
	if Apart(a, b) != Apart(b, a) || Equal(a, b) != Equal(b, a) {
		t.Errorf("%d, %d: apart %v, %v, equal %v, %v", a, b, Apart(a, b), Apart(b, a), Equal(a, b), Equal(b, a))
	}
	return relation{Ahead(a, b), Ahead(b, a), Apart(a, b), Equal(a, b)}
}

// checkRelation: do the calls tell just this, both ways round?
func checkRelation(t *testing.T, a, b Stamp, want relation) {
	t.Helper()
	if got := toldRelation(t, a, b); got != want {
		t.Errorf("%d, %d: %v, not %v", a, b, got, want)
	}
	back := relation{want.behind, want.ahead, want.apart, want.equal}
	if got := toldRelation(t, b, a); got != back {
		t.Errorf("%d, %d: %v, not %v", b, a, got, back)
	}
}

// checkClock: does a clock tell what the plain list does, whatever is asked, and twice?
func checkClock(t *testing.T, c *Clock, p plain) {
	t.Helper()
	for range 2 {
		if c.Len() != len(p) {
			t.Fatalf("%d actors, not %d", c.Len(), len(p))
		}
		for i := range p {
			if s := c.Now(i); !slices.Equal(s, p[i]) {
				t.Fatalf("actor %d: %d, not %d", i, s, p[i])
			}
		}
	}
}

// checkTick: what is told of one more.
func checkTick(t *testing.T, c *Clock, i int, want ...int) Stamp {
	t.Helper()
	s := c.Tick(i)
	if !slices.Equal(s, want) {
		t.Fatalf("tick of %d: %d, not %d", i, s, want)
	}
	return s
}

// checkMeet: does it tell so?
func checkMeet(t *testing.T, c *Clock, i int, s Stamp, want bool) {
	t.Helper()
	if got := c.Meet(i, s); got != want {
		t.Fatalf("actor %d meets %d: %v, not %v", i, s, got, want)
	}
}

// P19.1: stamps that are the same: just Equal holds.
func TestSame(t *testing.T) {
	for _, a := range []Stamp{
		nil, {}, {0}, {1}, {-1}, {least}, {greatest}, {0, 0}, {1, 0}, {5, 5}, {3, 1, 2}, {-3, -1, -2},
		{least, greatest}, {greatest, least}, {greatest, greatest, greatest}, {least, least, least}, {0, least, 0, greatest, 0},
	} {
		checkRelation(t, a, a, relation{equal: true})
		checkRelation(t, a, slices.Clone(a), relation{equal: true})
		// Nor is spare room a part of it.
		checkRelation(t, a, append(slices.Clone(a), 9)[:len(a)], relation{equal: true})
	}
	checkRelation(t, nil, Stamp{}, relation{equal: true})
}

// P19.1: one is ahead: none of its numbers is above the other's, one at least is below, be it the first, the last or one between.
func TestAhead(t *testing.T) {
	for _, x := range [][2]Stamp{
		{{0}, {1}}, {{-1}, {0}}, {{-1}, {1}}, {{-2}, {-1}}, {{5}, {6}}, {{0}, {greatest}}, {{least}, {0}}, {{least}, {-1}}, {{1}, {greatest}},
		{{least}, {greatest}}, {{least}, {least + 1}}, {{greatest - 1}, {greatest}}, {{1}, {1<<32 + 1}}, {{1 << 32}, {1<<32 + 1}}, {{5}, {1 << 32}},
		{{0, 0}, {0, 1}}, {{0, 0}, {1, 0}}, {{0, 0}, {1, 1}}, {{1, 0}, {2, 0}}, {{1, 0}, {1, 1}}, {{3, 4}, {3, 9}}, {{3, 4}, {9, 4}},
		{{0, 7, 7}, {1, 7, 7}}, {{7, 0, 7}, {7, 1, 7}}, {{7, 7, 0}, {7, 7, 1}}, {{1, 2, 3}, {4, 5, 6}}, {{1, 2, 3}, {1, 5, 6}}, {{1, 2, 3}, {4, 5, 3}}, {{9, 2, 3}, {9, 2, 4}},
		{{least, 0, greatest}, {greatest, 0, greatest}}, {{least, least, least}, {greatest, greatest, greatest}}, {{0, least, 0}, {0, greatest, 0}},
		{{greatest, least}, {greatest, least + 1}}, {{greatest - 1, 0}, {greatest, 0}}, {{-1, -1, -1}, {-1, -1, 0}},
	} {
		checkRelation(t, x[0], x[1], relation{ahead: true})
	}
}

// P19.1: they are apart: one number is above and one is below, wherever these are.
func TestApart(t *testing.T) {
	for _, x := range [][2]Stamp{
		{{0, 1}, {1, 0}}, {{1, 0}, {0, 1}}, {{2, 3}, {3, 2}}, {{-1, 0}, {0, -1}}, {{9, 1}, {1, 9}}, {{0, 9}, {1, 0}}, {{9, 0}, {0, 1}},
		{{0, 1, 1}, {1, 0, 1}}, {{1, 1, 0}, {1, 0, 1}}, {{0, 1, 1}, {1, 1, 0}}, {{0, 5, 1}, {1, 5, 0}}, {{1, 2, 3}, {0, 3, 4}}, {{1, 2, 3}, {2, 3, 2}}, {{1, 2, 3}, {2, 1, 4}}, {{1, 2, 3}, {0, 1, 4}},
		{{least, greatest}, {greatest, least}}, {{least, 0}, {0, -1}}, {{greatest, 0}, {0, 1}}, {{least, 1}, {least + 1, 0}}, {{greatest, 0}, {greatest - 1, 1}}, {{greatest, -1}, {least, 0}},
		{{0, 0, 0, 0, 0, 1}, {1, 0, 0, 0, 0, 0}}, {{1, 9, 9, 9, 9}, {2, 0, 0, 0, 0}},
	} {
		checkRelation(t, x[0], x[1], relation{apart: true})
	}
}

// P19.1: of stamps of unlike lengths none holds, noughts or not.
func TestUnlikeLengths(t *testing.T) {
	for _, x := range [][2]Stamp{
		{nil, {0}}, {{}, {0}}, {nil, {1}}, {nil, {-1}}, {nil, {least}}, {nil, {greatest}}, {nil, {0, 0}}, {nil, {1, 2, 3}},
		{{0}, {0, 0}}, {{1}, {1, 0}}, {{1}, {1, 2}}, {{1}, {2, 2}}, {{1}, {0, 2}}, {{1}, {0, 0}}, {{1}, {1, -1}}, {{5}, {5, least}}, {{5}, {5, greatest}},
		{{1, 2}, {1, 2, 0}}, {{1, 2}, {1, 2, 3}}, {{1, 2}, {2, 3, 4}}, {{1, 2}, {0, 3, 1}}, {{1, 2}, {0, 0, 0}}, {{1, 0, 0}, {1}}, {{least, least}, {greatest, greatest, greatest}},
	} {
		checkRelation(t, x[0], x[1], relation{})
	}
	a := make(Stamp, 512)
	checkRelation(t, a, a[:511], relation{})
	checkRelation(t, a, append(slices.Clone(a), 0), relation{})
}

// shortStamps: all of up to so many numbers, each out of these.
func shortStamps(length int, numbers ...int) []Stamp {
	all := []Stamp{nil}
	last := all
	for range length {
		var next []Stamp
		for _, s := range last {
			for _, x := range numbers {
				next = append(next, append(slices.Clone(s), x))
			}
		}
		all = append(all, next...)
		last = next
	}
	return all
}

// P19.1: all short stamps with each other, against the chapter's words; of one length just one holds, of unlike ones none.
func TestAllShortStamps(t *testing.T) {
	all := shortStamps(3, least, -1, 0, 1, greatest)
	all = append(all, shortStamps(4, 0, 1)[15:]...)
	for _, a := range all {
		for _, b := range all {
			want := plainRelation(a, b)
			if got := toldRelation(t, a, b); got != want {
				t.Fatalf("%d, %d: %v, not %v", a, b, got, want)
			}
			count := 0
			for _, holds := range []bool{Ahead(a, b), Ahead(b, a), Apart(a, b), Equal(a, b)} {
				if holds {
					count++
				}
			}
			if count == 1 != (len(a) == len(b)) || count > 1 {
				t.Fatalf("%d, %d: %d hold", a, b, count)
			}
			if j := Join(a, b); !slices.Equal(j, plainJoin(a, b)) {
				t.Fatalf("%d with %d: %d", a, b, j)
			}
		}
	}
}

// P19.1: long stamps, which are the same, or differ in a place or two, anywhere.
func TestLongStamps(t *testing.T) {
	for _, n := range []int{7, 64, 257, 512, 513, 1000} {
		a := make(Stamp, n)
		for i := range a {
			a[i] = i * 7 % 13
		}
		checkRelation(t, a, slices.Clone(a), relation{equal: true})
		for _, i := range []int{0, 1, n / 2, n - 2, n - 1} {
			b := slices.Clone(a)
			b[i]++
			checkRelation(t, a, b, relation{ahead: true})
			if !slices.Equal(Join(a, b), b) || !slices.Equal(Join(b, a), b) {
				t.Errorf("joined: %d of %d", i, n)
			}
			for _, k := range []int{0, 1, n / 2, n - 2, n - 1} {
				if k == i {
					continue
				}
				c := slices.Clone(a)
				c[k]++
				checkRelation(t, b, c, relation{apart: true})
				both := slices.Clone(b)
				both[k]++
				if !slices.Equal(Join(b, c), both) {
					t.Errorf("joined: %d and %d of %d", i, k, n)
				}
				checkRelation(t, b, both, relation{ahead: true})
			}
		}
	}
}

// P19.1: of each actor the greater number; behind the shorter stamp there are noughts, so that numbers below 0 behind its end become 0.
func TestJoin(t *testing.T) {
	for _, x := range [][3]Stamp{
		{nil, nil, nil}, {nil, {}, {}}, {{}, {}, nil},
		{{0}, {0}, {0}}, {{1}, {2}, {2}}, {{-1}, {-2}, {-1}}, {{-1}, {0}, {0}}, {{least}, {greatest}, {greatest}}, {{least}, {least}, {least}}, {{least}, {-1}, {-1}}, {{greatest}, {1}, {greatest}},
		{{1, 0}, {0, 1}, {1, 1}}, {{1, 5}, {2, 3}, {2, 5}}, {{3, 4, 5}, {3, 4, 5}, {3, 4, 5}}, {{1, 2, 3}, {3, 2, 1}, {3, 2, 3}}, {{-5, -6}, {-6, -5}, {-5, -5}}, {{least, greatest, 0}, {greatest, least, -1}, {greatest, greatest, 0}},
		{nil, {1}, {1}}, {nil, {0}, {0}}, {nil, {-1}, {0}}, {nil, {least}, {0}}, {nil, {greatest}, {greatest}}, {nil, {2, -3, 4}, {2, 0, 4}}, {{}, {-1, -1}, {0, 0}},
		{{1, 5}, {2, 3, 4}, {2, 5, 4}}, {{1, 5}, {2, 3, -4}, {2, 5, 0}}, {{-7}, {-8, -9, -10}, {-7, 0, 0}}, {{-8}, {-7, least, 1}, {-7, 0, 1}}, {{least}, {least, least}, {least, 0}}, {{5}, {4, -1, 3, -2}, {5, 0, 3, 0}}, {{9, 9, 9}, {0, 0, 0, 1}, {9, 9, 9, 1}},
	} {
		for _, ways := range [][2]Stamp{{x[0], x[1]}, {x[1], x[0]}} {
			if j := Join(ways[0], ways[1]); !slices.Equal(j, x[2]) {
				t.Errorf("%d with %d: %d, not %d", ways[0], ways[1], j, x[2])
			}
		}
	}
}

// spare: a stamp of these numbers, with room behind them.
func spare(s Stamp) Stamp {
	long := append(slices.Clone(s), 71, 72, 73, 74)
	return long[:len(s)]
}

// checkSpare: are the numbers and the room behind them as they were?
func checkSpare(t *testing.T, s Stamp, want Stamp) {
	t.Helper()
	if !slices.Equal(s[:len(s)+4], append(slices.Clone(want), 71, 72, 73, 74)) {
		t.Errorf("%d, not %d", s[:len(s)+4], want)
	}
}

// spoil: writes over all of a stamp, its spare room too.
func spoil(s Stamp) {
	s = s[:cap(s)]
	for i := range s {
		s[i] = -77
	}
}

// P19.1, P19.3: Join changes neither, nor their spare room, and shares no memory with them or with another answer.
func TestJoinIsNewMemory(t *testing.T) {
	for _, x := range [][2]Stamp{
		{{1, 2}, {3, 4}}, {{3, 4}, {1, 2}}, {{1, 4}, {3, 2}}, {{1, 2}, {1, 2}}, {{1}, {2, 3, 4}}, {{5, 6, 7}, {4}}, {{5, 6}, nil}, {nil, {5, 6}}, {{-1, -2}, {0}}, {{0}, {-1, -2}}, {nil, nil},
	} {
		a, b := spare(x[0]), spare(x[1])
		j, k := Join(a, b), Join(a, b)
		checkSpare(t, a, x[0])
		checkSpare(t, b, x[1])
		spoil(j)
		checkSpare(t, a, x[0])
		checkSpare(t, b, x[1])
		want := plainJoin(x[0], x[1])
		if !slices.Equal(k, want) {
			t.Errorf("another answer: %d, not %d", k, want)
		}
		spoil(a)
		spoil(b)
		if !slices.Equal(k, want) {
			t.Errorf("the stamps were changed: %d, not %d", k, want)
		}
	}
	// Also with itself.
	a := spare(Stamp{1, 2})
	spoil(Join(a, a))
	checkSpare(t, a, Stamp{1, 2})
}

// P19.1, P19.3: to be asked changes no stamp.
func TestAskingChangesNoStamp(t *testing.T) {
	all := shortStamps(2, least, 0, 1, greatest)
	for _, x := range all {
		for _, y := range all {
			a, b := spare(x), spare(y)
			Ahead(a, b)
			Apart(a, b)
			Equal(a, b)
			checkSpare(t, a, x)
			checkSpare(t, b, y)
		}
	}
}

// P19.2: sizes at their bounds, below and above them; each new stamp has noughts, but the actor's own number is 1.
func TestNew(t *testing.T) {
	for _, x := range [][2]int{
		{1, 1}, {2, 2}, {3, 3}, {4, 4}, {64, 64}, {256, 256}, {257, 257}, {510, 510}, {511, 511}, {512, 512},
		{0, 1}, {-1, 1}, {-2, 1}, {-512, 1}, {-513, 1}, {-1 << 31, 1}, {-1 << 32, 1}, {-1<<32 + 2, 1}, {least + 2, 1}, {least + 1, 1}, {least, 1},
		{513, 512}, {514, 512}, {600, 512}, {1024, 512}, {4096, 512}, {1 << 31, 512}, {1 << 32, 512}, {1<<32 + 2, 512}, {greatest - 1, 512}, {greatest, 512},
	} {
		c := New(x[0])
		if c.Len() != x[1] {
			t.Fatalf("of %d: %d, not %d", x[0], c.Len(), x[1])
		}
		checkClock(t, c, plainOf(x[1]))
	}
	for i, want := range []Stamp{{1, 0, 0}, {0, 1, 0}, {0, 0, 1}} {
		if s := New(3).Now(i); !slices.Equal(s, want) {
			t.Errorf("actor %d of 3: %d, not %d", i, s, want)
		}
	}
	if s := New(1).Now(0); !slices.Equal(s, Stamp{1}) {
		t.Errorf("actor 0 of 1: %d", s)
	}
}

// P19.2: the chapter's example.
func TestExample(t *testing.T) {
	c := New(2)
	if s := c.Now(0); !slices.Equal(s, Stamp{1, 0}) {
		t.Error(s)
	}
	checkTick(t, c, 0, 1, 0)
	checkMeet(t, c, 1, Stamp{1, 0}, true)
	if s := c.Now(1); !slices.Equal(s, Stamp{1, 1}) {
		t.Error(s)
	}
	checkClock(t, c, plain{{2, 0}, {1, 1}})
}

// noActors: numbers of which there is no actor, of so many.
func noActors(n int) []int {
	return []int{-1, -2, -n, -n - 1, n, n + 1, 2 * n, 512, 513, -1 << 31, 1 << 31, 1 << 32, -1 << 32, 1<<32 + 1, least, least + 1, greatest, greatest - 1}
}

// P19.2: of an actor that there isn't there is no stamp, it meets none, and nothing happens.
func TestNoSuchActor(t *testing.T) {
	for _, n := range []int{1, 2, 3, 17, 512} {
		c, p := New(n), plainOf(n)
		for range 2 {
			for _, i := range noActors(n) {
				if s := c.Now(i); len(s) != 0 {
					t.Errorf("of %d, actor %d: %d", n, i, s)
				}
				if s := c.Tick(i); len(s) != 0 {
					t.Errorf("of %d, tick of %d: %d", n, i, s)
				}
				if n < 512 || i == greatest || i == -1 {
					checkClock(t, c, p)
				}
				s := make(Stamp, n)
				s[n-1] = 5
				for _, s := range []Stamp{nil, {}, s, c.Now(0), c.Now(n - 1)} {
					checkMeet(t, c, i, s, false)
				}
			}
			checkClock(t, c, p)
			// So also behind some deeds.
			checkTick(t, c, n-1, p.tick(n-1)...)
			checkMeet(t, c, 0, c.Now(n-1), p.meet(0, p.now(n-1)))
			checkClock(t, c, p)
		}
	}
}

// P19.2: Tick tells the stamp as it was, and adds one to the actor's own number alone, again and again.
func TestTick(t *testing.T) {
	c := New(3)
	checkTick(t, c, 1, 0, 1, 0)
	checkClock(t, c, plain{{1, 0, 0}, {0, 2, 0}, {0, 0, 1}})
	checkTick(t, c, 1, 0, 2, 0)
	checkClock(t, c, plain{{1, 0, 0}, {0, 3, 0}, {0, 0, 1}})
	checkTick(t, c, 0, 1, 0, 0)
	checkClock(t, c, plain{{2, 0, 0}, {0, 3, 0}, {0, 0, 1}})
	checkTick(t, c, 2, 0, 0, 1)
	checkClock(t, c, plain{{2, 0, 0}, {0, 3, 0}, {0, 0, 2}})
	// What was met stays as it is.
	checkMeet(t, c, 2, Stamp{7, 8, 0}, true)
	checkTick(t, c, 2, 7, 8, 2)
	checkTick(t, c, 2, 7, 8, 3)
	checkClock(t, c, plain{{2, 0, 0}, {0, 3, 0}, {7, 8, 4}})
	for _, n := range []int{1, 2, 5, 512} {
		c := New(n)
		for _, i := range []int{0, n / 2, n - 1} {
			want := c.Now(i)
			for range 300 {
				checkTick(t, c, i, want...)
				want[i]++
			}
			if !slices.Equal(c.Now(i), want) {
				t.Errorf("actor %d of %d: %d", i, n, c.Now(i))
			}
		}
	}
}

// P19.2: the greatest int goes round to the least, of the actor's own number alone, be it alone or among others.
func TestTickGoesRound(t *testing.T) {
	c := New(1)
	checkMeet(t, c, 0, Stamp{greatest}, true)
	checkTick(t, c, 0, greatest)
	checkTick(t, c, 0, least)
	checkTick(t, c, 0, least+1)
	checkClock(t, c, plain{{least + 2}})

	c = New(3)
	checkMeet(t, c, 1, Stamp{greatest, greatest - 1, greatest}, true)
	checkTick(t, c, 1, greatest, greatest-1, greatest)
	checkTick(t, c, 1, greatest, greatest, greatest)
	checkClock(t, c, plain{{1, 0, 0}, {greatest, least, greatest}, {0, 0, 1}})
	// What it tells then has a number below 0: nobody meets it.
	s := checkTick(t, c, 1, greatest, least, greatest)
	for i := range 3 {
		checkMeet(t, c, i, s, false)
	}
	checkClock(t, c, plain{{1, 0, 0}, {greatest, least + 1, greatest}, {0, 0, 1}})
	// But it meets others, and takes their numbers where these are greater.
	checkMeet(t, c, 1, c.Now(0), true)
	checkClock(t, c, plain{{1, 0, 0}, {greatest, 0, greatest}, {0, 0, 1}})
	// Bounds of narrower numbers are none.
	for _, x := range []int{255, 1<<15 - 1, 1<<16 - 1, 1<<31 - 1, 1<<32 - 1, 1<<53 - 1} {
		c := New(2)
		checkMeet(t, c, 0, Stamp{x, x}, true)
		checkTick(t, c, 0, x, x)
		checkTick(t, c, 0, x+1, x)
		checkTick(t, c, 0, x+2, x)
	}
}

// P19.2: an actor's stamp is its Join with the one that it meets, number by number; those of the others stay.
func TestMeet(t *testing.T) {
	for _, x := range []struct{ s, want Stamp }{
		{Stamp{0, 0, 0}, Stamp{0, 1, 0}}, {Stamp{0, 1, 0}, Stamp{0, 1, 0}}, {Stamp{1, 0, 0}, Stamp{1, 1, 0}}, {Stamp{0, 0, 1}, Stamp{0, 1, 1}}, {Stamp{0, 2, 0}, Stamp{0, 2, 0}},
		{Stamp{3, 0, 4}, Stamp{3, 1, 4}}, {Stamp{3, 5, 4}, Stamp{3, 5, 4}}, {Stamp{greatest, 0, 0}, Stamp{greatest, 1, 0}}, {Stamp{0, greatest, 0}, Stamp{0, greatest, 0}}, {Stamp{0, 0, greatest}, Stamp{0, 1, greatest}}, {Stamp{greatest, greatest, greatest}, Stamp{greatest, greatest, greatest}},
	} {
		c := New(3)
		for range 2 {
			checkMeet(t, c, 1, x.s, true)
			checkClock(t, c, plain{{1, 0, 0}, x.want, {0, 0, 1}})
		}
		// What is less then changes nothing any more.
		checkMeet(t, c, 1, Stamp{0, 0, 0}, true)
		checkMeet(t, c, 1, c.Now(1), true)
		checkClock(t, c, plain{{1, 0, 0}, x.want, {0, 0, 1}})
	}
	// Several ones are together as one.
	c := New(3)
	checkMeet(t, c, 0, Stamp{0, 5, 2}, true)
	checkMeet(t, c, 0, Stamp{0, 3, 4}, true)
	checkMeet(t, c, 0, Stamp{2, 0, 0}, true)
	checkClock(t, c, plain{{2, 5, 4}, {0, 1, 0}, {0, 0, 1}})
	// Of each actor that there is, the first and the last one too.
	for _, n := range []int{1, 2, 5, 512} {
		for _, i := range []int{0, n / 2, n - 1} {
			c, p := New(n), plainOf(n)
			s := make(Stamp, n)
			for k := range s {
				s[k] = k%3 + 1
			}
			checkMeet(t, c, i, s, p.meet(i, s))
			if !slices.Equal(c.Now(i), s) {
				t.Errorf("actor %d of %d: %d", i, n, c.Now(i))
			}
			checkClock(t, c, p)
		}
	}
}

// P19.2: false, and nothing happens: the stamp is none, shorter or longer, be it by noughts alone.
func TestMeetUnlikeLengths(t *testing.T) {
	for _, n := range []int{1, 2, 3, 17, 512} {
		c, p := New(n), plainOf(n)
		c.Tick(n - 1)
		p.tick(n - 1)
		for _, length := range []int{0, 1, 2, n / 2, n - 2, n - 1, n + 1, n + 2, 2 * n, 512, 513, 1000} {
			if length < 0 || length == n {
				continue
			}
			for _, x := range []int{0, 1, greatest, -1, least} {
				checkMeet(t, c, 0, slices.Repeat(Stamp{x}, length), false)
				checkMeet(t, c, n-1, slices.Repeat(Stamp{x}, length), false)
			}
		}
		checkMeet(t, c, 0, nil, false)
		checkMeet(t, c, n-1, Stamp{}, false)
		checkMeet(t, c, 0, append(c.Now(n-1), 0), false)
		checkMeet(t, c, 0, c.Now(n - 1)[:n-1], false)
		// Spare room that would make the length right doesn't count.
		checkMeet(t, c, 0, make(Stamp, n-1, n), false)
		checkClock(t, c, p)
	}
}

// P19.2: false, and nothing happens: a number is below 0, be it the first, the last, one between, the actor's own or all.
func TestMeetBelowNought(t *testing.T) {
	for _, n := range []int{1, 2, 3, 5, 512} {
		c, p := New(n), plainOf(n)
		for _, at := range []int{0, 1, n / 2, n - 2, n - 1} {
			if at < 0 || at >= n {
				continue
			}
			for _, x := range []int{-1, -2, -1 << 31, -1 << 32, least, least + 1} {
				for _, other := range []int{0, 5, greatest} {
					s := slices.Repeat(Stamp{other}, n)
					s[at] = x
					for _, i := range []int{0, n / 2, n - 1} {
						checkMeet(t, c, i, s, false)
					}
				}
			}
			checkMeet(t, c, at, slices.Repeat(Stamp{-1}, n), false)
			checkMeet(t, c, at, slices.Repeat(Stamp{least}, n), false)
		}
		checkClock(t, c, p)
	}
	// Not even where the actor's own number is below that.
	c := New(2)
	checkMeet(t, c, 0, Stamp{greatest, 0}, true)
	checkTick(t, c, 0, greatest, 0)
	checkMeet(t, c, 0, Stamp{-1, 0}, false)
	checkMeet(t, c, 0, Stamp{least, 0}, false)
	checkClock(t, c, plain{{least, 0}, {0, 1}})
	checkMeet(t, c, 0, Stamp{0, 0}, true)
	checkClock(t, c, plain{{0, 0}, {0, 1}})
}

// P19.3: what one hands on by Tick and another one meets is ahead of what this one has behind its next Tick; so over several actors in a row.
func TestHandedOn(t *testing.T) {
	for _, n := range []int{2, 3, 10, 257, 512} {
		c := New(n)
		var handed []Stamp
		for i := range n {
			if i > 0 {
				checkMeet(t, c, i, handed[i-1], true)
				if !Ahead(handed[i-1], c.Now(i)) {
					t.Fatalf("actor %d of %d: not behind the one whose stamp it met", i, n)
				}
			}
			before := c.Tick(i)
			for k, s := range handed {
				if n <= 10 || i-k < 3 || k < 2 {
					checkRelation(t, s, before, relation{ahead: true})
					checkRelation(t, s, c.Now(i), relation{ahead: true})
				}
			}
			handed = append(handed, before)
		}
		// Those who are later in the row are in nobody's stamp.
		for i := range n {
			if slices.ContainsFunc(handed[i][i+1:], func(x int) bool { return x != 0 }) {
				t.Fatalf("actor %d of %d: %d", i, n, handed[i])
			}
		}
	}
}

// P19.3: also where what was met isn't new, or is one's own: the next Tick makes the difference.
func TestHandedOnAgain(t *testing.T) {
	c := New(3)
	a := checkTick(t, c, 0, 1, 0, 0)
	checkMeet(t, c, 1, a, true)
	b := checkTick(t, c, 1, 1, 1, 0)
	checkMeet(t, c, 1, a, true)
	checkTick(t, c, 1, 1, 2, 0)
	if now := c.Now(1); !Ahead(a, now) || !Ahead(b, now) {
		t.Errorf("%d", now)
	}
	// Back to the first one, which went on meanwhile.
	d := checkTick(t, c, 0, 2, 0, 0)
	checkRelation(t, b, d, relation{apart: true})
	checkMeet(t, c, 0, b, true)
	e := checkTick(t, c, 0, 3, 1, 0)
	for _, s := range []Stamp{a, b, d} {
		checkRelation(t, s, e, relation{ahead: true})
	}
	// One's own.
	checkMeet(t, c, 0, e, true)
	checkTick(t, c, 0, 4, 1, 0)
	checkRelation(t, e, c.Now(0), relation{ahead: true})
	// Who meets just what it has already is behind it by its next Tick.
	checkMeet(t, c, 2, Stamp{0, 0, 1}, true)
	checkTick(t, c, 2, 0, 0, 1)
	checkRelation(t, Stamp{0, 0, 1}, c.Now(2), relation{ahead: true})
}

// P19.3: the stamps of two who never met are apart, however they go on; also if both met the same third one.
func TestNeverMet(t *testing.T) {
	c := New(4)
	checkRelation(t, c.Now(0), c.Now(1), relation{apart: true})
	var a, b []Stamp
	for range 5 {
		a, b = append(a, c.Tick(0)), append(b, c.Tick(1))
		b = append(b, c.Tick(1))
	}
	third := c.Tick(2)
	checkMeet(t, c, 0, third, true)
	checkMeet(t, c, 1, third, true)
	for range 5 {
		a, b = append(a, c.Tick(0)), append(b, c.Tick(1))
	}
	for _, x := range a {
		for _, y := range b {
			checkRelation(t, x, y, relation{apart: true})
		}
	}
	for _, s := range [][]Stamp{a[5:], b[10:]} {
		for _, x := range s {
			checkRelation(t, third, x, relation{ahead: true})
		}
	}
	// And the one who met them both is behind both.
	checkMeet(t, c, 3, a[len(a)-1], true)
	checkMeet(t, c, 3, b[len(b)-1], true)
	c.Tick(3)
	for _, x := range append(a, b...) {
		checkRelation(t, x, c.Now(3), relation{ahead: true})
	}
}

// P19.3: over many deeds, a stamp that was handed on is ahead of another one of another actor just if it came there, straight or by others.
func TestAheadJustIfItCame(t *testing.T) {
	type event struct {
		who   int
		stamp Stamp
		known map[int]bool // the events that came here ahead of it
	}
	for seed := range int64(40) {
		random := rand.New(rand.NewSource(seed))
		n := 2 + random.Intn(5)
		c := New(n)
		var events []event
		known := make([]map[int]bool, n)
		for i := range known {
			known[i] = map[int]bool{}
		}
		for range 60 {
			i := random.Intn(n)
			if len(events) > 0 && random.Intn(3) == 0 {
				k := random.Intn(len(events))
				checkMeet(t, c, i, events[k].stamp, true)
				known[i][k] = true
				for x := range events[k].known {
					known[i][x] = true
				}
				continue
			}
			now := map[int]bool{}
			for x := range known[i] {
				now[x] = true
			}
			events = append(events, event{i, c.Tick(i), now})
			known[i][len(events)-1] = true
		}
		for x, a := range events {
			for y, b := range events {
				if a.who != b.who && Ahead(a.stamp, b.stamp) != b.known[x] {
					t.Fatalf("seed %d: events %d and %d, %d and %d: %v", seed, x, y, a.stamp, b.stamp, b.known[x])
				}
			}
		}
	}
}

// P19.3: what Now and Tick tell is new memory, each time: what is written there, the clock and other answers don't show.
func TestAnswersAreNewMemory(t *testing.T) {
	for _, n := range []int{1, 2, 3, 8, 512} {
		c, p := New(n), plainOf(n)
		for _, i := range []int{0, n / 2, n - 1} {
			a, b := c.Now(i), c.Now(i)
			spoil(a)
			if !slices.Equal(b, p.now(i)) {
				t.Errorf("another answer: %d", b)
			}
			spoil(b)
			checkClock(t, c, p)

			d, want := c.Tick(i), p.tick(i)
			e := c.Now(i)
			spoil(d)
			if !slices.Equal(e, p.now(i)) || slices.Equal(e, want) {
				t.Errorf("behind a tick: %d, not %d", e, p.now(i))
			}
			checkClock(t, c, p)
			spoil(e)
			checkClock(t, c, p)
			f, want := c.Tick(i), p.tick(i)
			if !slices.Equal(f, want) {
				t.Errorf("the next tick: %d, not %d", f, want)
			}
			spoil(c.Now(i))
			spoil(c.Tick(i))
			p.tick(i)
			checkClock(t, c, p)
		}
	}
}

// P19.3: an answer asked for earlier stays as it was when the clock goes on.
func TestAnswersStay(t *testing.T) {
	for _, n := range []int{1, 2, 3, 6} {
		c, p := New(n), plainOf(n)
		var told []Stamp
		var want [][]int
		for k := range 60 {
			i := k * 5 % n
			if k%4 == 3 {
				j := (i + 1) % n
				checkMeet(t, c, i, c.Now(j), p.meet(i, p.now(j)))
			} else {
				told, want = append(told, c.Tick(i)), append(want, p.tick(i))
			}
			told, want = append(told, c.Now(i), c.Now(n-1)), append(want, p.now(i), p.now(n-1))
		}
		for k := range told {
			if !slices.Equal(told[k], want[k]) {
				t.Fatalf("of %d, answer %d: %d, not %d", n, k, told[k], want[k])
			}
		}
	}
}

// P19.3: the stamp that is met isn't changed, nor its spare room, and isn't kept: be it greater, less or mixed, met or not.
func TestMetStampIsLeft(t *testing.T) {
	for _, s := range []Stamp{
		{0, 0, 0}, {9, 9, 9}, {9, 0, 9}, {0, 1, 0}, {0, 9, 0}, {9, 1, 0}, {greatest, greatest, greatest}, {9, 9}, {9, 9, 9, 9}, nil, {9, -1, 9}, {-1, 9, 9},
	} {
		for i := -1; i <= 3; i++ {
			c, p := New(3), plainOf(3)
			met := spare(s)
			checkMeet(t, c, i, met, p.meet(i, s))
			checkSpare(t, met, s)
			spoil(met)
			checkClock(t, c, p)
			// Nor does it go on with the clock.
			met = spare(s)
			checkMeet(t, c, i, met, p.meet(i, s))
			c.Tick(i)
			p.tick(i)
			c.Meet(i, Stamp{20, 20, 20})
			p.meet(i, []int{20, 20, 20})
			checkSpare(t, met, s)
			checkClock(t, c, p)
		}
	}
	// One stamp that is met by all is nobody's.
	c, p := New(3), plainOf(3)
	s := Stamp{5, 5, 5}
	for i := range 3 {
		checkMeet(t, c, i, s, p.meet(i, []int{5, 5, 5}))
	}
	checkTick(t, c, 1, p.tick(1)...)
	checkClock(t, c, p)
	if !slices.Equal(s, Stamp{5, 5, 5}) {
		t.Errorf("%d", s)
	}
}

// P19.3: clocks have nothing together, be they of one size or not.
func TestClocksAreApart(t *testing.T) {
	for _, sizes := range [][2]int{{2, 2}, {2, 3}, {512, 512}} {
		a, b := New(sizes[0]), New(sizes[1])
		p, q := plainOf(sizes[0]), plainOf(sizes[1])
		for range 3 {
			checkTick(t, a, 0, p.tick(0)...)
			checkTick(t, a, 1, p.tick(1)...)
			checkTick(t, b, 1, q.tick(1)...)
			checkClock(t, a, p)
			checkClock(t, b, q)
			checkMeet(t, b, 0, b.Now(1), q.meet(0, q.now(1)))
			checkClock(t, a, p)
			checkClock(t, b, q)
			// What one tells the other one meets, if it has its size.
			checkMeet(t, b, 1, a.Now(0), q.meet(1, p.now(0)))
			checkClock(t, a, p)
			checkClock(t, b, q)
		}
	}
}

// P19.2: asking changes nothing, whatever is asked, and however often.
func TestAskingChangesNothing(t *testing.T) {
	c, p := New(3), plainOf(3)
	for range 4 {
		for i := range 3 {
			for k := -1; k <= 3; k++ {
				if s := c.Now(k); !slices.Equal(s, p.now(k)) {
					t.Errorf("actor %d: %d, not %d", k, s, p.now(k))
				}
			}
			Join(c.Now(0), c.Now(i))
			checkClock(t, c, p)
			checkTick(t, c, i, p.tick(i)...)
		}
	}
}

// P19.2, P19.3: many deeds of all kinds tell what a plain list of stamps does, whichever comes when.
func TestAgainstPlainList(t *testing.T) {
	for seed := range int64(300) {
		random := rand.New(rand.NewSource(seed))
		n := 1 + random.Intn(7)
		c, p := New(n), plainOf(n)
		handed := []Stamp{nil}
		for range 120 {
			i := random.Intn(n+2) - 1
			switch random.Intn(5) {
			case 0, 1:
				s, want := c.Tick(i), p.tick(i)
				if !slices.Equal(s, want) {
					t.Fatalf("tick of %d: %d, not %d", i, s, want)
				}
				handed = append(handed, s)
			case 2, 3:
				s := handed[random.Intn(len(handed))]
				checkMeet(t, c, i, s, p.meet(i, s))
			default:
				s := make(Stamp, max(n+random.Intn(7)/3-1, 0))
				for k := range s {
					s[k] = random.Intn(40)
					switch random.Intn(12) {
					case 0:
						s[k] = -1 - random.Intn(3)
					case 1:
						s[k] = greatest - random.Intn(3)
					}
				}
				checkMeet(t, c, i, s, p.meet(i, s))
			}
			checkClock(t, c, p)
		}
	}
}

// P19.2: all rows of six deeds of two actors, ticks and meetings of each other's last handed stamp, tell what a plain list does.
func TestAllShortRows(t *testing.T) {
	const deeds = 6
	for row := range 4 * 4 * 4 * 4 * 4 * 4 {
		c, p := New(2), plainOf(2)
		var handed [2]Stamp
		for range deeds {
			i := row % 2
			if row/2%2 == 0 {
				handed[i] = checkTick(t, c, i, p.tick(i)...)
			} else {
				s := handed[1-i]
				checkMeet(t, c, i, s, p.meet(i, s))
				if s != nil && !Ahead(s, c.Now(i)) {
					t.Fatalf("%d isn't ahead of %d", s, c.Now(i))
				}
			}
			checkClock(t, c, p)
			row /= 4
		}
	}
}
