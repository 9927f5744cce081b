package recipe

import (
	"fmt"
	"math"
	"math/big"
	"math/rand"
	"reflect"
	"regexp"
	"slices"
	"strings"
	"testing"

	"smalto/api"
	"smalto/border"
	"smalto/op"
	"smalto/raw"
)

const (
	least    = math.MinInt64
	greatest = math.MaxInt64
	lowest   = "-9223372036854775808"
	highest  = "9223372036854775807"
)

// beside: numbers that are none of those from 0 up to count.
func beside(count int) []int {
	return []int{-1, count, least, greatest, -2, count + 1, -count, 1 << 32, 1<<32 + 1, -1 << 32, -1<<32 + 1, 1 << 62, least + 1, greatest - 1}
}

func gauss(sigma int64) op.Op     { return op.Op{Kind: op.Gauss, Sigma: sigma} }
func blur(radius int) op.Op       { return op.Op{Kind: op.Blur, Radius: radius} }
func kernel(x, y []int64) op.Op   { return op.Op{Kind: op.Kernel, X: x, Y: y} }
func resizeTo(w, h int) op.Op     { return op.Op{Kind: op.Resize, W: w, H: h} }
func with(b int, o op.Op) op.Op   { o.Border = border.Policy(b); return o }
func by(f int, o op.Op) op.Op     { o.Filter = raw.Filter(f); return o }
func kinded(k int, o op.Op) op.Op { o.Kind = op.Kind(k); return o }

// full: an operation of a kind in which every field says something.
func full(kind int) op.Op {
	return op.Op{Kind: op.Kind(kind), Border: border.Wrap, Sigma: 11, Radius: 12, X: []int64{13, -14}, Y: []int64{15}, Filter: raw.Lanczos, W: 16, H: 17}
}

// alike: are these the same operations, nil and empty weights being the same?
func alike(a, b op.Op) bool {
	if !slices.Equal(a.X, b.X) || !slices.Equal(a.Y, b.Y) {
		return false
	}
	a.X, a.Y, b.X, b.Y = nil, nil, nil, nil
	return reflect.DeepEqual(a, b)
}

func allAlike(a, b []op.Op) bool { return slices.EqualFunc(a, b, alike) }

// deep: a copy of operations that shares nothing with them, spare room included.
func deep(l []op.Op) []op.Op {
	all := slices.Clone(l[:cap(l)])
	for i := range all {
		all[i].X = slices.Clone(all[i].X[:cap(all[i].X)])
		all[i].Y = slices.Clone(all[i].Y[:cap(all[i].Y)])
	}
	return all
}

var (
	borders = []string{"clamp", "mirror", "wrap"}
	filters = []string{"box", "cubic", "lanczos"}
)

// tellClean: by the chapter's words, an operation with just what its kind asks for, and the border.
func tellClean(o op.Op) op.Op {
	switch o.Kind {
	case op.Gauss:
		return op.Op{Kind: o.Kind, Border: o.Border, Sigma: o.Sigma}
	case op.Blur:
		return op.Op{Kind: o.Kind, Border: o.Border, Radius: o.Radius}
	case op.Kernel:
		return op.Op{Kind: o.Kind, Border: o.Border, X: o.X, Y: o.Y}
	case op.Resize:
		return op.Op{Kind: o.Kind, Border: o.Border, W: o.W, H: o.H, Filter: o.Filter}
	}
	return op.Op{Kind: o.Kind, Border: o.Border}
}

// tellWord: by the chapter's table, an operation's word, and true; false, if it has none.
func tellWord(o op.Op) (string, bool) {
	if o.Border < 0 || o.Border > 2 || o.Kind == op.Resize && (o.Filter < 0 || o.Filter > 2) {
		return "", false
	}
	switch o.Kind {
	case 0:
		return fmt.Sprintf("\u03c3%d\u007c%s", o.Sigma, borders[o.Border]), true
	case 1:
		return fmt.Sprintf("\u25a1%d\u007c%s", o.Radius, borders[o.Border]), true
	case 2:
		return fmt.Sprintf("\u2297%s\u00d7%s\u007c%s", tellList(o.X), tellList(o.Y), borders[o.Border]), true
	case 3:
		return fmt.Sprintf("\u2194%d\u00d7%d,%s\u007c%s", o.W, o.H, filters[o.Filter], borders[o.Border]), true
	}
	return "", false
}

func tellList(l []int64) string {
	return strings.Join(strings.Fields(strings.Trim(fmt.Sprint(l), "[]")), ",")
}

var (
	digits = `(0|-?[1-9][0-9]*)`
	run    = `((?:` + digits + `(?:,` + digits + `)*)?)`
	ends   = `\x{7c}(clamp|mirror|wrap)\z`
	forms  = []*regexp.Regexp{
		regexp.MustCompile(`\A\x{3c3}` + digits + ends),
		regexp.MustCompile(`\A\x{25a1}` + digits + ends),
		regexp.MustCompile(`\A\x{2297}` + run + `\x{d7}` + run + ends),
		regexp.MustCompile(`\A\x{2194}` + digits + `\x{d7}` + digits + `,(box|cubic|lanczos)` + ends),
	}
)

// tellRead: by the chapter's words, the operation of a word, and true; false, if it is none's.
func tellRead(word string) (op.Op, bool) {
	for kind, form := range forms {
		m := form.FindStringSubmatch(word)
		if m == nil {
			continue
		}
		o, ok := op.Op{Kind: op.Kind(kind), Border: border.Policy(slices.Index(borders, m[len(m)-1]))}, true
		held := func(s string) int64 {
			x, _ := new(big.Int).SetString(s, 10)
			ok = ok && x.IsInt64()
			return x.Int64()
		}
		heldAll := func(s string) (l []int64) {
			if s == "" {
				return nil
			}
			for _, part := range strings.Split(s, ",") {
				l = append(l, held(part))
			}
			return l
		}
		switch kind {
		case 0:
			o.Sigma = held(m[1])
		case 1:
			o.Radius = int(held(m[1]))
		case 2:
			o.X, o.Y = heldAll(m[1]), heldAll(m[4])
		case 3:
			o.W, o.H, o.Filter = int(held(m[1])), int(held(m[2])), raw.Filter(slices.Index(filters, m[3]))
		}
		return o, ok
	}
	return op.Op{}, false
}

// tellParse: by the chapter's words, what Parse tells of a text.
func tellParse(s string) (l []op.Op, at int, e api.Code) {
	if s == "" {
		return nil, 0, api.OK
	}
	for i, word := range strings.Split(s, ";") {
		o, ok := tellRead(word)
		if !ok {
			return l, i, api.BadOp
		}
		l = append(l, o)
	}
	return l, 0, api.OK
}

func checkWord(t *testing.T, o op.Op, want string) {
	t.Helper()
	if s, e := Word(o); s != want || e != api.OK {
		t.Fatalf("%v: %q, %d, not %q", o, s, e, want)
	}
}

func checkNoWord(t *testing.T, o op.Op) {
	t.Helper()
	if s, e := Word(o); s != "" || e != api.BadOp {
		t.Fatalf("%v: %q, %d", o, s, e)
	}
	if s, e := Print([]op.Op{o}); s != "" || e != api.BadOp {
		t.Fatalf("Print of %v: %q, %d", o, s, e)
	}
}

// checkParse: are these the operations of a text, each Clean?
func checkParse(t *testing.T, s string, want ...op.Op) {
	t.Helper()
	l, at, e := Parse(s)
	if e != api.OK || at != 0 || !allAlike(l, want) {
		t.Fatalf("%q: %v, %d, %d, not %v", s, l, at, e, want)
	}
	for _, o := range l {
		if !alike(o, tellClean(o)) {
			t.Fatalf("%q: %v isn't Clean", s, o)
		}
	}
}

// checkBad: is this word none's, wherever it stands, and are those ahead of it told?
func checkBad(t *testing.T, word string) {
	t.Helper()
	ahead := []op.Op{with(2, gauss(5)), kernel([]int64{1, -2}, nil), by(1, resizeTo(3, 4))}
	texts := []string{"σ5|wrap", "⊗1,-2×|clamp", "↔3×4,cubic|clamp"}
	for at := 0; at <= len(ahead); at++ {
		front := strings.Join(texts[:at], ";")
		if at > 0 {
			front += ";"
		}
		for _, behind := range []string{"", ";□1|clamp", ";", ";x", ";□1|clamp;σ2|wrap"} {
			if front+word+behind == "" {
				continue
			}
			l, got, e := Parse(front + word + behind)
			if e != api.BadOp || got != at || !allAlike(l, ahead[:at]) {
				t.Fatalf("%q: %v, %d, %d, not the first %d", front+word+behind, l, got, e, at)
			}
		}
	}
}

// P13.1: a kind's first rune, 0 of none.
func TestSign(t *testing.T) {
	for k, want := range map[op.Kind]rune{op.Gauss: 0x3c3, op.Blur: 0x25a1, op.Kernel: 0x2297, op.Resize: 0x2194} {
		if got := Sign(k); got != want {
			t.Errorf("%d: %q, not %q", k, got, want)
		}
	}
	for _, k := range beside(4) {
		if got := Sign(op.Kind(k)); got != 0 {
			t.Errorf("%d: %q", k, got)
		}
	}
}

// P13.1: Clean leaves just what the kind asks for, and the border, whatever that is.
func TestClean(t *testing.T) {
	for _, want := range []op.Op{
		{Kind: op.Gauss, Border: border.Wrap, Sigma: 11},
		{Kind: op.Blur, Border: border.Wrap, Radius: 12},
		{Kind: op.Kernel, Border: border.Wrap, X: []int64{13, -14}, Y: []int64{15}},
		{Kind: op.Resize, Border: border.Wrap, Filter: raw.Lanczos, W: 16, H: 17},
	} {
		for _, b := range append(beside(3), 0, 1, 2) {
			want := with(b, want)
			if got := Clean(with(b, full(int(want.Kind)))); !alike(got, want) {
				t.Errorf("%v, not %v", got, want)
			}
			if got := Clean(want); !alike(got, want) {
				t.Errorf("again: %v, not %v", got, want)
			}
		}
	}
}

// P13.1: of no kind the kind and the border alone are left.
func TestCleanOfNoKind(t *testing.T) {
	for _, k := range beside(4) {
		for _, b := range append(beside(3), 0, 1, 2) {
			want := op.Op{Kind: op.Kind(k), Border: border.Policy(b)}
			if got := Clean(with(b, full(k))); !alike(got, want) {
				t.Errorf("%v, not %v", got, want)
			}
		}
	}
}

// P13.1: what a kind asks for is left as it is, also where Make takes none of it.
func TestCleanAtTheEnds(t *testing.T) {
	for _, n := range []int{0, 1, -1, least, greatest} {
		for _, o := range []op.Op{gauss(int64(n)), blur(n), resizeTo(n, 5), resizeTo(5, n), by(n, resizeTo(1, 2)), kernel([]int64{int64(n)}, nil), kernel(nil, []int64{int64(n)}), kernel(nil, nil), kernel([]int64{}, []int64{})} {
			if got := Clean(o); !alike(got, o) {
				t.Errorf("%v, not %v", got, o)
			}
		}
	}
}

// P13.1: the chapter's example, and a word of each kind, border and filter.
func TestWord(t *testing.T) {
	checkWord(t, with(2, kernel([]int64{1, 2, 1}, []int64{1})), "⊗1,2,1×1|wrap")
	checkWord(t, gauss(98304), "σ98304|clamp")
	checkWord(t, with(1, gauss(1)), "σ1|mirror")
	checkWord(t, with(2, gauss(1)), "σ1|wrap")
	checkWord(t, blur(3), "□3|clamp")
	checkWord(t, with(1, blur(3)), "□3|mirror")
	checkWord(t, with(2, blur(3)), "□3|wrap")
	checkWord(t, kernel([]int64{1}, []int64{2}), "⊗1×2|clamp")
	checkWord(t, with(1, kernel([]int64{-1, 0, 3}, []int64{4, 5})), "⊗-1,0,3×4,5|mirror")
	checkWord(t, resizeTo(64, 48), "↔64×48,box|clamp")
	checkWord(t, by(1, with(1, resizeTo(64, 48))), "↔64×48,cubic|mirror")
	checkWord(t, by(2, with(2, resizeTo(1, 65536))), "↔1×65536,lanczos|wrap")
}

// P13.1: a word's bytes are those of the chapter's runes, in UTF-8.
func TestWordBytes(t *testing.T) {
	checkWord(t, gauss(1), "\xcf\x831\x7cclamp")
	checkWord(t, blur(1), "\xe2\x96\xa11\x7cclamp")
	checkWord(t, kernel([]int64{1}, []int64{1}), "\xe2\x8a\x971\xc3\x971\x7cclamp")
	checkWord(t, resizeTo(1, 1), "\xe2\x86\x941\xc3\x971\x2cbox\x7cclamp")
}

// P13.1: numbers of any size have digits, those too of which Make takes none.
func TestWordNumbers(t *testing.T) {
	for n, want := range map[int]string{0: "0", 7: "7", -7: "-7", 10: "10", -100: "-100", 1 << 32: "4294967296", 1 << 40: "1099511627776", least: lowest, greatest: highest, greatest - 1: "9223372036854775806"} {
		checkWord(t, gauss(int64(n)), "σ"+want+"|clamp")
		checkWord(t, blur(n), "□"+want+"|clamp")
		checkWord(t, resizeTo(n, 1), "↔"+want+"×1,box|clamp")
		checkWord(t, resizeTo(1, n), "↔1×"+want+",box|clamp")
		checkWord(t, kernel([]int64{int64(n)}, []int64{1}), "⊗"+want+"×1|clamp")
		checkWord(t, kernel([]int64{1}, []int64{int64(n)}), "⊗1×"+want+"|clamp")
	}
}

// P13.1: weights may be none, one and many.
func TestWordWeights(t *testing.T) {
	checkWord(t, kernel(nil, nil), "⊗×|clamp")
	checkWord(t, kernel([]int64{}, []int64{}), "⊗×|clamp")
	checkWord(t, kernel([]int64{}, nil), "⊗×|clamp")
	checkWord(t, kernel([]int64{5}, nil), "⊗5×|clamp")
	checkWord(t, kernel([]int64{}, []int64{5}), "⊗×5|clamp")
	checkWord(t, kernel([]int64{1, 2}, []int64{3, 4, 5, 6}), "⊗1,2×3,4,5,6|clamp")
	checkWord(t, kernel([]int64{least, greatest}, []int64{0, 0}), "⊗"+lowest+","+highest+"×0,0|clamp")
	checkWord(t, kernel(slices.Repeat([]int64{-8}, 3000), []int64{1}), "⊗-8"+strings.Repeat(",-8", 2999)+"×1|clamp")
	checkWord(t, kernel([]int64{1}, slices.Repeat([]int64{42}, 3000)), "⊗1×42"+strings.Repeat(",42", 2999)+"|clamp")
}

// P13.1: a kind, a border or, of a Resize, a filter that there isn't has no word.
func TestNoWord(t *testing.T) {
	for _, k := range beside(4) {
		checkNoWord(t, full(k))
		checkNoWord(t, op.Op{Kind: op.Kind(k)})
	}
	for _, b := range beside(3) {
		for k := range 4 {
			checkNoWord(t, with(b, full(k)))
			checkNoWord(t, with(b, op.Op{Kind: op.Kind(k)}))
		}
	}
	for _, f := range beside(3) {
		checkNoWord(t, by(f, full(int(op.Resize))))
		checkNoWord(t, by(f, with(7, full(int(op.Resize)))))
		checkNoWord(t, by(f, resizeTo(1, 1)))
	}
}

// P13.1: what another kind asks for isn't looked at, nor is a filter beside another kind than Resize.
func TestWordOfItsOwnAlone(t *testing.T) {
	for k, want := range []string{"σ11|wrap", "□12|wrap", "⊗13,-14×15|wrap", "↔16×17,lanczos|wrap"} {
		checkWord(t, full(k), want)
		if k == int(op.Resize) {
			continue
		}
		for _, f := range beside(3) {
			checkWord(t, by(f, full(k)), want)
		}
	}
}

// P13.1: the words with a semicolon between two; of no operations the empty text.
func TestPrint(t *testing.T) {
	for _, c := range []struct {
		l    []op.Op
		want string
	}{
		{nil, ""},
		{[]op.Op{}, ""},
		{[]op.Op{gauss(1)}, "σ1|clamp"},
		{[]op.Op{gauss(1), blur(2)}, "σ1|clamp;□2|clamp"},
		{[]op.Op{full(3), full(2), full(1), full(0), full(0)}, "↔16×17,lanczos|wrap;⊗13,-14×15|wrap;□12|wrap;σ11|wrap;σ11|wrap"},
		{[]op.Op{kernel(nil, nil), kernel(nil, nil)}, "⊗×|clamp;⊗×|clamp"},
		{slices.Repeat([]op.Op{blur(1)}, 16), "□1|clamp" + strings.Repeat(";□1|clamp", 15)},
		{slices.Repeat([]op.Op{blur(1)}, 17), "□1|clamp" + strings.Repeat(";□1|clamp", 16)},
		{slices.Repeat([]op.Op{blur(1)}, 1000), "□1|clamp" + strings.Repeat(";□1|clamp", 999)},
	} {
		if s, e := Print(c.l); s != c.want || e != api.OK {
			t.Errorf("%v: %q, %d, not %q", c.l, s, e, c.want)
		}
	}
}

// P13.1: where one operation has no word, there is no text.
func TestPrintOfOneWithout(t *testing.T) {
	for _, bad := range []op.Op{kinded(4, full(0)), kinded(-1, full(0)), with(3, full(1)), with(-1, full(2)), by(3, full(3)), by(-1, full(3))} {
		for count := 1; count <= 20; count++ {
			for at := range count {
				l := slices.Repeat([]op.Op{blur(1)}, count)
				l[at] = bad
				if s, e := Print(l); s != "" || e != api.BadOp {
					t.Fatalf("%v at %d of %d: %q, %d", bad, at, count, s, e)
				}
			}
		}
	}
}

// P13.2: the operations of a text; of an empty one none.
func TestParse(t *testing.T) {
	checkParse(t, "")
	checkParse(t, "⊗1,2,1×1|wrap", with(2, kernel([]int64{1, 2, 1}, []int64{1})))
	checkParse(t, "σ98304|mirror", with(1, gauss(98304)))
	checkParse(t, "□3|clamp", blur(3))
	checkParse(t, "↔64×48,box|clamp", resizeTo(64, 48))
	checkParse(t, "↔64×48,cubic|mirror", with(1, by(1, resizeTo(64, 48))))
	checkParse(t, "↔64×48,lanczos|wrap", with(2, by(2, resizeTo(64, 48))))
	checkParse(t, "σ1|clamp;σ1|clamp", gauss(1), gauss(1))
	checkParse(t, "σ98304|mirror;□3|clamp;↔64×48,cubic|clamp;⊗-1,3×|clamp", with(1, gauss(98304)), blur(3), by(1, resizeTo(64, 48)), kernel([]int64{-1, 3}, nil))
	checkParse(t, "□1|clamp"+strings.Repeat(";□1|clamp", 16), slices.Repeat([]op.Op{blur(1)}, 17)...)
	checkParse(t, "□1|clamp"+strings.Repeat(";□1|clamp", 999), slices.Repeat([]op.Op{blur(1)}, 1000)...)
}

// P13.2: numbers are any that an int64 is; an operation need be none that Make takes.
func TestParseNumbers(t *testing.T) {
	for want, s := range map[int]string{0: "0", 7: "7", -7: "-7", 10: "10", -100: "-100", 1 << 40: "1099511627776", least: lowest, greatest: highest, least + 1: "-9223372036854775807"} {
		checkParse(t, "σ"+s+"|clamp", gauss(int64(want)))
		checkParse(t, "□"+s+"|clamp", blur(want))
		checkParse(t, "↔"+s+"×1,box|clamp", resizeTo(want, 1))
		checkParse(t, "↔1×"+s+",box|clamp", resizeTo(1, want))
		checkParse(t, "⊗"+s+"×1|clamp", kernel([]int64{int64(want)}, []int64{1}))
		checkParse(t, "⊗1×3,"+s+"|clamp", kernel([]int64{1}, []int64{3, int64(want)}))
	}
}

// P13.2: X and Y may be empty.
func TestParseWeights(t *testing.T) {
	checkParse(t, "⊗×|clamp", kernel(nil, nil))
	checkParse(t, "⊗5×|clamp", kernel([]int64{5}, nil))
	checkParse(t, "⊗×5|clamp", kernel(nil, []int64{5}))
	checkParse(t, "⊗1,2×3,4,5,6|mirror", with(1, kernel([]int64{1, 2}, []int64{3, 4, 5, 6})))
	checkParse(t, "⊗-8"+strings.Repeat(",-8", 2999)+"×1|clamp", kernel(slices.Repeat([]int64{-8}, 3000), []int64{1}))
}

// P13.2: texts that are no number, in each place that asks for one.
func TestParseNoNumbers(t *testing.T) {
	for _, s := range []string{
		"-", "--1", "-0", "+1", "+0", "+", "00", "01", "-01", "007", "00000000000000000001", " 1", "1 ", " ", "\t1", "1\n", "1\x00", "\x00", "1.0", "1e1", "0x1", "1_0", "_1", "x", "１", "٣", "−1", "1-", "1-1", "\xff", "1\xcf",
		"9223372036854775808", "9223372036854775810", "-9223372036854775809", "18446744073709551615", "18446744073709551616", "18446744073709551617", "10000000000000000000", "99999999999999999999", "100000000000000000000", "-99999999999999999999", "340282366920938463463374607431768211457", strings.Repeat("1", 500), "-" + strings.Repeat("9", 500), strings.Repeat("0", 500),
	} {
		checkBad(t, "σ"+s+"|clamp")
		checkBad(t, "□"+s+"|clamp")
		checkBad(t, "↔"+s+"×1,box|clamp")
		checkBad(t, "↔1×"+s+",box|clamp")
		checkBad(t, "⊗"+s+"×1|clamp")
		checkBad(t, "⊗1×"+s+"|clamp")
		checkBad(t, "⊗1,"+s+",1×|clamp")
		checkBad(t, "⊗×"+s+",1|clamp")
		checkBad(t, "⊗×1,"+s+"|clamp")
	}
	for _, word := range []string{"σ|clamp", "□|clamp", "↔×1,box|clamp", "↔1×,box|clamp", "↔×,box|clamp"} {
		checkBad(t, word)
	}
}

// P13.2: words may be empty, and are then no operation's.
func TestParseEmptyWords(t *testing.T) {
	checkBad(t, "")
	for s, want := range map[string]int{";": 0, ";;": 0, ";;;;": 0, ";σ1|clamp": 0, "σ1|clamp;": 1, "σ1|clamp;;σ1|clamp": 1, "σ1|clamp;σ1|clamp;": 2, "σ1|clamp;σ1|clamp;;": 2} {
		l, at, e := Parse(s)
		if e != api.BadOp || at != want || !allAlike(l, slices.Repeat([]op.Op{gauss(1)}, want)) {
			t.Errorf("%q: %v, %d, %d", s, l, at, e)
		}
	}
}

// P13.2: a word begins with a sign, whole.
func TestParseNoSigns(t *testing.T) {
	for _, s := range []string{
		"", "1", "x", "s", "Σ", "ς", "σσ", " σ", "■", "◻", "⊕", "⊛", "→", "⟷", "×", "|", ",", "\x00", "\x01", "�", "￿", "\ufeffσ",
		"\xcf", "\x83", "\xe2", "\xe2\x96", "\x96\xa1", "\xa1", "\xe2\x8a", "\xe2\x86", "\xff", "\xffσ", "\xc3", "\xe2\xcf\x83", "\xe0\x8f\x83", "\xf0\x82\x96\xa1", "\xc3\xed\xa0\x80",
	} {
		checkBad(t, s+"1|clamp")
		checkBad(t, s+"1×1|clamp")
		checkBad(t, s+"1×1,box|clamp")
		checkBad(t, s+"|clamp")
		checkBad(t, s)
	}
	for _, sign := range []string{"σ", "□", "⊗", "↔"} {
		checkBad(t, sign)
		checkBad(t, sign+"|clamp")
	}
}

// P13.2: what one kind asks for is none of another's.
func TestParseOtherKindsBodies(t *testing.T) {
	bodies := [][]string{{"1"}, {"1"}, {"1×1", "×", "1,2×3"}, {"1×1,box", "0×0,lanczos"}}
	for k, sign := range []string{"σ", "□", "⊗", "↔"} {
		for other, l := range bodies {
			for _, s := range l {
				if s != bodies[k][0] && other != k {
					checkBad(t, sign+s+"|clamp")
				}
			}
		}
	}
}

// P13.2: a word ends with one bar and a border's name.
func TestParseBars(t *testing.T) {
	for _, s := range []string{"σ1", "□1", "⊗1×1", "↔1×1,box"} {
		for _, end := range []string{"", "|", "||", "|clamp|", "|clamp|clamp", "||clamp", "clamp", "||wrap", "|Clamp", "|CLAMP", "|Wrap", "|mirroR", "|clam", "|clampx", "|clamp ", "| clamp", "|clamp\x00", "|box", "|gauss", "|0", "|1", "|wrap,", "|wrap\n", ",wrap", "¦wrap", "｜wrap", "|wrap|mirror", "|\xff", "|wrap\xff"} {
			checkBad(t, s+end)
		}
	}
}

// P13.2: the mark between X and Y, or W and H, is there just once.
func TestParseCrosses(t *testing.T) {
	for _, s := range []string{"⊗|clamp", "⊗1|clamp", "⊗1,2|clamp", "⊗1×1×1|clamp", "⊗××|clamp", "⊗1××1|clamp", "⊗×1×|clamp", "⊗1x1|clamp", "⊗1*1|clamp", "⊗1\xc31|clamp", "⊗1\x971|clamp", "⊗1\xd71|clamp", "↔1,box|clamp", "↔1×1×1,box|clamp", "↔1××1,box|clamp", "↔1x1,box|clamp", "↔11,box|clamp", "↔,box|clamp", "↔1×1,box×|clamp"} {
		checkBad(t, s)
	}
}

// P13.2: between two weights there is just one comma, and none ahead or at the end.
func TestParseCommas(t *testing.T) {
	for _, s := range []string{",", ",,", ",1", "1,", "1,,2", ",1,2", "1,2,", "1,2,,", "1;2", "1.2", "1 ,2", "1, 2", "1 2"} {
		checkBad(t, "⊗"+s+"×1|clamp")
		checkBad(t, "⊗1×"+s+"|clamp")
		checkBad(t, "⊗"+s+"×|clamp")
		checkBad(t, "⊗×"+s+"|clamp")
	}
}

// P13.2: a Resize has a comma and a filter's name.
func TestParseFilters(t *testing.T) {
	for _, s := range []string{"", ",", ",,box", ",box,", ",box,box", ",Box", ",BOX", ",cub", ",cubics", ", box", ",box ", "box", ";box", ",1", ",clamp", ",lanczo", ",lanczosx", ",boxcubic", ",gauss", ",\xff", ",box\x00"} {
		checkBad(t, "↔1×1"+s+"|clamp")
	}
	checkBad(t, "↔1,box×1|clamp")
	checkBad(t, "↔1,1×box|clamp")
	checkBad(t, "↔1,1,box|clamp")
	checkBad(t, "σ1,box|clamp")
	checkBad(t, "⊗1×1,box|clamp")
}

// P13.2: all texts of some marks, as the chapter's words tell of them.
func TestParseOfMarks(t *testing.T) {
	marks := []string{"σ", "□", "⊗", "↔", "×", "|clamp", "|", ";", ",", ",box", "0", "1", "-", "wrap", "\xcf"}
	var try func(text string, more int)
	try = func(text string, more int) {
		checkAsTold(t, text)
		if more == 0 {
			return
		}
		for _, mark := range marks {
			try(text+mark, more-1)
		}
	}
	try("", 4)
	for _, sign := range []string{"σ", "□", "⊗", "↔"} {
		for _, behind := range marks {
			for _, further := range marks {
				for _, last := range marks {
					checkAsTold(t, sign+behind+further+last+"|clamp")
					checkAsTold(t, sign+"1×"+behind+further+last+"|wrap;σ1|clamp")
					checkAsTold(t, sign+behind+further+last+"1,box|mirror")
				}
			}
		}
	}
}

// checkAsTold: does Parse tell of a text what the chapter's words do, and is a text that is parsed what Print makes of it?
func checkAsTold(t *testing.T, text string) {
	t.Helper()
	l, at, e := Parse(text)
	want, wantAt, wantCode := tellParse(text)
	if at != wantAt || e != wantCode || !allAlike(l, want) {
		t.Fatalf("%q: %v, %d, %d, not %v, %d, %d", text, l, at, e, want, wantAt, wantCode)
	}
	if e != api.OK {
		return
	}
	if s, e := Print(l); s != text || e != api.OK {
		t.Fatalf("%q: printed %q, %d", text, s, e)
	}
}

var ordinary = []int64{0, 1, 2, 3, -1, 9, 10, 99, 100, -10, 512, 65536, 98304, 1 << 31, 1<<31 - 1, 1 << 32, -1 << 31, 1 << 53, 1 << 62, least, greatest, least + 1, greatest - 1, 1_000_000_000_000_000_000, -999_999_999_999_999_999}

func anyNumber(r *rand.Rand) int64 {
	switch r.Intn(3) {
	case 0:
		return ordinary[r.Intn(len(ordinary))]
	case 1:
		return int64(r.Intn(2001) - 1000)
	}
	return int64(r.Uint64()) >> r.Intn(64)
}

func anyNumbers(r *rand.Rand) []int64 {
	l := make([]int64, r.Intn(6))
	for i := range l {
		l[i] = anyNumber(r)
	}
	return l
}

// anyOp: with all fields set, of a kind, a border and a filter that there are.
func anyOp(r *rand.Rand) op.Op {
	return op.Op{Kind: op.Kind(r.Intn(4)), Border: border.Policy(r.Intn(3)), Sigma: anyNumber(r), Radius: int(anyNumber(r)), X: anyNumbers(r), Y: anyNumbers(r), Filter: raw.Filter(r.Intn(3)), W: int(anyNumber(r)), H: int(anyNumber(r))}
}

func anyOps(r *rand.Rand) []op.Op {
	l := make([]op.Op, r.Intn(7))
	for i := range l {
		l[i] = anyOp(r)
	}
	return l
}

// P13.1, P13.3: what is printed are the words that the chapter tells, and is parsed, Clean.
func TestPrintIsParsed(t *testing.T) {
	r := rand.New(rand.NewSource(13))
	for range 20000 {
		l := anyOps(r)
		words, clean := []string{}, []op.Op{}
		for _, o := range l {
			word, _ := tellWord(o)
			words, clean = append(words, word), append(clean, tellClean(o))
			checkWord(t, o, word)
			if got := Clean(o); !alike(got, tellClean(o)) {
				t.Fatalf("%v: Clean is %v", o, got)
			}
		}
		s, e := Print(l)
		if want := strings.Join(words, ";"); s != want || e != api.OK {
			t.Fatalf("%v: %q, %d, not %q", l, s, e, want)
		}
		checkParse(t, s, clean...)
	}
}

// P13.1: with any kind, border and filter, near and far, the words that the chapter tells, or BadOp.
func TestWordOfAny(t *testing.T) {
	r := rand.New(rand.NewSource(131))
	near := func(count int) int {
		if r.Intn(8) == 0 {
			l := beside(count)
			return l[r.Intn(len(l))]
		}
		return r.Intn(count)
	}
	for range 20000 {
		o := by(near(3), with(near(3), kinded(near(4), anyOp(r))))
		if want, ok := tellWord(o); ok {
			checkWord(t, o, want)
		} else {
			checkNoWord(t, o)
		}
		if got := Clean(o); !alike(got, tellClean(o)) {
			t.Fatalf("%v: Clean is %v", o, got)
		}
	}
}

// P13.2, P13.3: texts of which some bytes or runes are others; a text has at most one row of operations.
func TestParseOfChangedTexts(t *testing.T) {
	r := rand.New(rand.NewSource(132))
	pieces := []string{"σ", "□", "⊗", "↔", "×", "|", ";", ",", "-", "+", " ", "0", "1", "9", "00", "clamp", "mirror", "wrap", "box", "cubic", "lanczos", "\x83", "\xcf", "\xff", "\x00", "Wrap", "σ1|clamp", "××", ",,", ";;", "99999999999999999999"}
	fine := 0
	for range 60000 {
		text, _ := Print(anyOps(r))
		for range 1 + r.Intn(2) {
			from := r.Intn(len(text) + 1)
			to := min(from+r.Intn(4), len(text))
			put := ""
			if r.Intn(3) > 0 {
				put = pieces[r.Intn(len(pieces))]
			}
			text = text[:from] + put + text[to:]
		}
		checkAsTold(t, text)
		if _, _, e := Parse(text); e == api.OK {
			fine++
		}
	}
	if fine < 1000 {
		t.Errorf("%d texts alone were parsed", fine)
	}
}

// P13.2: a text cut off behind each byte, and one with each byte another.
func TestParseCutOff(t *testing.T) {
	text := "σ98304|mirror;□-3|clamp;↔64×48,cubic|clamp;⊗-1,3×12,0|wrap;σ0|wrap"
	for end := range len(text) + 1 {
		checkAsTold(t, text[:end])
		checkAsTold(t, text[end:])
	}
	for at := range len(text) {
		for b := range 256 {
			checkAsTold(t, text[:at]+string([]byte{byte(b)})+text[at+1:])
		}
		checkAsTold(t, text[:at]+text[at+1:])
	}
}

// P13.2: in a long text, the word that is none's is told, and all ahead of it.
func TestParseTellsWhichWord(t *testing.T) {
	const count = 100
	good := make([]op.Op, count)
	words := make([]string, count)
	for i := range good {
		good[i] = with(i%3, gauss(int64(i)))
		words[i], _ = Word(good[i])
	}
	for at := range count {
		for _, bad := range []string{"", "σ", "σ01|clamp", "↔1×1|clamp", "⊗1|wrap"} {
			own := slices.Clone(words)
			own[at] = bad
			l, got, e := Parse(strings.Join(own, ";"))
			if e != api.BadOp || got != at || !allAlike(l, good[:at]) {
				t.Fatalf("%q at %d: %d, %d, %d of them", bad, at, got, e, len(l))
			}
		}
	}
}

// P13.3: two rows of operations that aren't the same, Clean, have not the same text.
func TestTextsAreUnlike(t *testing.T) {
	numbers := []int64{0, 1, -1, 10, 11}
	lists := [][]int64{nil, {0}, {1}, {1, 1}, {11}, {-1}, {1, 0}, {10}}
	var all []op.Op
	for b := range 3 {
		for _, n := range numbers {
			all = append(all, with(b, gauss(n)), with(b, blur(int(n))))
			for _, m := range numbers {
				for f := range 3 {
					all = append(all, with(b, by(f, resizeTo(int(n), int(m)))))
				}
			}
		}
		for _, x := range lists {
			for _, y := range lists {
				all = append(all, with(b, kernel(x, y)))
			}
		}
	}
	seen := map[string]int{}
	for i, o := range all {
		s, e := Print([]op.Op{o})
		if other, ok := seen[s]; ok || e != api.OK {
			t.Fatalf("%v and %v: %q, %d", o, all[other], s, e)
		}
		seen[s] = i
		checkParse(t, s, o)
	}
}

// P13.3: operations, their weights and the spare room stay as they were.
func TestGivenStaysAsItWas(t *testing.T) {
	x, y := []int64{1, 2, 3, 77, 78}, []int64{4, 79, 80}
	l := []op.Op{full(0), full(1), {Kind: op.Kernel, X: x[:3], Y: y[:1]}, full(3), kinded(9, full(2)), full(2)}
	given := l[:4]
	was, wasX, wasY := deep(given), slices.Clone(x), slices.Clone(y)
	check := func() {
		t.Helper()
		if !allAlike(deep(given), was) || !slices.Equal(x, wasX) || !slices.Equal(y, wasY) {
			t.Fatal("changed")
		}
	}
	Print(given)
	check()
	for _, o := range given {
		Word(o)
		Clean(o)
		check()
	}
	if s, e := Print(l); s != "" || e != api.BadOp {
		t.Fatal(s, e)
	}
	check()
}

// P13.3: answers are new memory: written over, they change nothing that was given, and the other way round; nor do X and Y of one answer share any.
func TestCleanIsNewMemory(t *testing.T) {
	shared := []int64{1, 2, 3, 4}
	o := kernel(shared[:3], shared[:3])
	clean := Clean(o)
	shared[0], shared[3] = 99, 98
	if !slices.Equal(clean.X, []int64{1, 2, 3}) || !slices.Equal(clean.Y, []int64{1, 2, 3}) {
		t.Fatal("an answer shows what was written over:", clean)
	}
	clean.X[0], clean.X[1] = 50, 51
	clean.X, clean.Y = append(clean.X, 7), append(clean.Y, 8)
	if !slices.Equal(clean.Y, []int64{1, 2, 3, 8}) || !slices.Equal(shared, []int64{99, 2, 3, 98}) {
		t.Fatal("one list shows what was written into another:", clean, shared)
	}
	again := Clean(clean)
	again.Y[0] = 60
	if clean.Y[0] != 1 {
		t.Fatal("shared:", clean)
	}
	room := make([]int64, 0, 4)
	none := Clean(kernel(room, room))
	none.X, none.Y = append(none.X, 5), append(none.Y, 6)
	if !slices.Equal(room[:4], []int64{0, 0, 0, 0}) || none.X[0] != 5 {
		t.Fatal("spare room:", room[:4], none)
	}
}

// P13.3: what is told of a text is new each time.
func TestParseIsNewMemory(t *testing.T) {
	const text = "⊗1,2,3×1,2,3|wrap;⊗1,2,3×1,2,3|wrap;σ5|clamp"
	want := []op.Op{with(2, kernel([]int64{1, 2, 3}, []int64{1, 2, 3})), with(2, kernel([]int64{1, 2, 3}, []int64{1, 2, 3})), gauss(5)}
	l, _, _ := Parse(text)
	l[0].X[0] = 9
	l[0].X, l[1].X = append(l[0].X, 10), append(l[1].X, 11)
	if l[0].Y[0] != 1 || l[1].X[0] != 1 || l[1].Y[0] != 1 || l[0].X[3] != 10 || l[1].X[3] != 11 {
		t.Fatal("lists of one answer share memory:", l)
	}
	l[1].Y[1], l[2] = 12, full(3)
	checkParse(t, text, want...)
	partly, at, e := Parse(text + ";x")
	if e != api.BadOp || at != 3 || !allAlike(partly, want) {
		t.Fatal(partly, at, e)
	}
	partly[0].X[0] = 9
	checkParse(t, text, want...)
}

// P13.3: a text doesn't show it, when the operations are written over.
func TestTextIsNewMemory(t *testing.T) {
	x := []int64{1, 2}
	l := []op.Op{kernel(x, x), full(1)}
	word, _ := Word(l[0])
	text, _ := Print(l)
	x[0], l[1] = 9, full(0)
	if word != "⊗1,2×1,2|clamp" || text != "⊗1,2×1,2|clamp;□12|wrap" {
		t.Fatal(word, text)
	}
	if s, _ := Print(l); s != "⊗9,2×9,2|clamp;σ11|wrap" {
		t.Fatal(s)
	}
}
