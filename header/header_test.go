package header

import (
	"bytes"
	"math"
	"math/big"
	"regexp"
	"slices"
	"strconv"
	"strings"
	"testing"

	"smalto/api"
)

const (
	least    = math.MinInt
	greatest = math.MaxInt
	thirty   = "123456789012345678901234567890"
)

// told: what a head's bytes are to be parsed to.
type told struct {
	text string
	head Header
	code api.Code
}

// parse: of bytes that stand in spare room of their own, which are to stay as they were.
func parse(t *testing.T, text string) (Header, api.Code) {
	t.Helper()
	whole := []byte(text + "# 1 1 1 \n")
	b := whole[:len(text)]
	h, e := Parse(b)
	if string(whole) != text+"# 1 1 1 \n" {
		t.Fatalf("%q: bytes have changed", text)
	}
	if e != api.OK && h != (Header{}) {
		t.Fatalf("%q: %v beside %d", text, h, e)
	}
	return h, e
}

// checkAll: are they parsed as they are told?
func checkAll(t *testing.T, l []told) {
	t.Helper()
	for _, c := range l {
		if h, e := parse(t, c.text); h != c.head || e != c.code {
			t.Errorf("%q: %v and %d, not %v and %d", c.text, h, e, c.head, c.code)
		}
	}
}

// checkCode: are all of them parsed to nothing but a code?
func checkCode(t *testing.T, code api.Code, l ...string) {
	t.Helper()
	for _, text := range l {
		checkAll(t, []told{{text, Header{}, code}})
	}
}

// blanks: those of the chapter.
var blanks = []byte{9, 10, 11, 12, 13, 32}

// with: a head of 2, 3, 255, whose blank bytes are 32, but at one of the four places of them a text stands.
func with(place int, text string) string {
	gaps := []string{" ", " ", " ", " "}
	gaps[place] = text
	return "P5" + gaps[0] + "2" + gaps[1] + "3" + gaps[2] + "255" + gaps[3]
}

// P10.1: heads of all kinds of blanks and remarks.
func TestParse(t *testing.T) {
	two := Header{1, 2, 3, 255, 11}
	sized := func(size int) Header { h := two; h.Size = size; return h }
	checkAll(t, []told{
		{"P5 2 3\n255 ", two, api.OK}, {"P6 2 3\n255 ", Header{3, 2, 3, 255, 11}, api.OK}, {"P5\n2 3\n255\n", two, api.OK}, {"P5\t2\v3\f255\r", two, api.OK}, {"P5 1 1 1 ", Header{1, 1, 1, 1, 9}, api.OK}, {"P6 1 1 1 ", Header{3, 1, 1, 1, 9}, api.OK},
		// Bytes behind the head are none of its own: a line feed behind a carriage neither, nor a remark.
		{"P5 2 3\n255 \x00\x01", two, api.OK}, {"P5 2 3\n255\r\n", two, api.OK}, {"P5 2 3\n255  ", two, api.OK}, {"P5 2 3\n255 #x\n", two, api.OK}, {"P5 2 3\n255 7", two, api.OK}, {"P5 2 3\n255 P5 2 3\n255 ", two, api.OK},
		// Several blanks.
		{"P5  2 3 255 ", sized(12), api.OK}, {"P5 \t\n\v\f\r2 3 255 ", sized(16), api.OK}, {"P5 2\r\n3\n\n\n255 ", sized(14), api.OK},
		// A remark is as good as a blank, wherever it stands.
		{"P5#a\n2 3 255 ", sized(13), api.OK}, {"P5 2#a\n3 255 ", sized(13), api.OK}, {"P5 2 3#a\n255 ", sized(13), api.OK}, {"P5#a\n2#b\n3#c\n255 ", sized(17), api.OK}, {"P5#a\r2#b\r3#c\r255\r", sized(17), api.OK},
		{"P5 #a\n2 3 255 ", sized(14), api.OK}, {"P5#a\n 2 3 255 ", sized(14), api.OK}, {"P5 # a b # c\n 2 3 255 ", sized(22), api.OK}, {"P5 2 #a\n #b\r\t3 255 ", sized(19), api.OK}, {"P5 2 3 #a\n#b\n#c\n255 ", sized(20), api.OK}, {"P5 2 3 #a\r\n255 ", sized(15), api.OK},
		// An empty one, one of a byte alone, one of digits, of the other blanks, of any bytes.
		{"P5#\n2 3 255 ", sized(12), api.OK}, {"P5#\r2 3 255 ", sized(12), api.OK}, {"P5#\n#\r#\n2 3 255 ", sized(16), api.OK}, {"P5##\n2 3 255 ", sized(13), api.OK}, {"P5 2#7\n3 255 ", sized(13), api.OK}, {"P5 2# 7 8 9 \n3 255 ", sized(19), api.OK}, {"P5 2#\t\v\f 7\n3 255 ", sized(17), api.OK}, {"P5 2#\x00\x01\x7f\x80\xff\xfe\n3 255 ", sized(18), api.OK}, {"P5 2 3 #P6 9 9 9 \n255 ", sized(22), api.OK},
		// Noughts ahead.
		{"P5 02 3 255 ", sized(12), api.OK}, {"P5 0000000000000000000000000000002 003 0255 ", sized(44), api.OK}, {"P5 1 1 00001 ", Header{1, 1, 1, 1, 13}, api.OK},
		{"P6#a\n#b\r12 # c\n 3\t65535\nxyz", Header{3, 12, 3, 65535, 24}, api.OK},
	})
}

// P10.1: bytes that don't begin with P5 or P6.
func TestMagic(t *testing.T) {
	if h, e := Parse(nil); h != (Header{}) || e != api.BadMagic {
		t.Error("nil", h, e)
	}
	if h, e := Parse([]byte{}); h != (Header{}) || e != api.BadMagic {
		t.Error("none", h, e)
	}
	checkCode(t, api.BadMagic, "", "P", "5", "6", "p", "#", " ", "\x00", "\xff", "P4", "P7", "P1", "P2", "P3", "p5", "p6", "Q5", "O6", "PP", "55", "5P", "6P", "P ", " P", "P#", "P\x00", "P\xff", "P0", "P9", "P\x85", "\xd05", "#P", "P\n5")
	for _, begin := range []string{"P4", "P7", "p5", "p6", "Q5", "P 5", " P5", "#a\nP5", "\xef\xbb\xbfP5", "P05", "5P", "6", ""} {
		checkCode(t, api.BadMagic, begin+" 1 1 1 ")
	}
	for x := range 256 {
		for _, c := range []struct {
			text string
			good bool
		}{{"P" + string([]byte{byte(x)}) + " 1 1 1 ", x == '5' || x == '6'}, {string([]byte{byte(x)}) + "5 1 1 1 ", x == 'P'}, {string([]byte{byte(x)}) + "6 1 1 1 ", x == 'P'}} {
			if _, e := parse(t, c.text); (e == api.OK) != c.good || (e == api.BadMagic) == c.good {
				t.Errorf("%q: %d", c.text, e)
			}
		}
	}
}

// P10.1: a head that is cut off behind each of its bytes, whatever stands in the bytes' spare room.
func TestCutOff(t *testing.T) {
	for _, text := range []string{"P5 2 3\n255 ", "P6 2 3\n255 ", "P6#a\n#b\r12 # c\n 3\t65535\n", "P5\r\n#\n0640 480#\r#\r65535\v", "P5 " + thirty[:5] + " 1 1 "} {
		whole := []byte(text)
		for n := range whole {
			want := api.Truncated
			if n < 2 {
				want = api.BadMagic
			}
			if h, e := Parse(whole[:n]); h != (Header{}) || e != want {
				t.Errorf("%q, %d bytes: %v and %d", text, n, h, e)
			}
			if h, e := Parse(slices.Clip(bytes.Clone(whole[:n]))); h != (Header{}) || e != want {
				t.Errorf("%q, %d bytes alone: %v and %d", text, n, h, e)
			}
		}
		if h, e := Parse(whole); e != api.OK || h.Size != len(text) {
			t.Errorf("%q: %v and %d", text, h, e)
		}
	}
}

// P10.1: a blank byte ahead of each number and behind the third, and bytes that are none.
func TestBlanks(t *testing.T) {
	for x := range 256 {
		for place := range 4 {
			text := with(place, string([]byte{byte(x)}))
			h, e := parse(t, text)
			switch {
			case slices.Contains(blanks, byte(x)):
				if h != (Header{1, 2, 3, 255, 11}) || e != api.OK {
					t.Errorf("%q: %v and %d", text, h, e)
				}
			case x == '#' && place < 3:
				if e != api.Truncated {
					t.Errorf("%q: %d", text, e)
				}
			case x >= '0' && x <= '9' && place > 0:
				// The digits at either side are one number.
				if e != api.Truncated {
					t.Errorf("%q: %d", text, e)
				}
			default:
				if e != api.BadHeader {
					t.Errorf("%q: %d", text, e)
				}
			}
		}
	}
	for _, x := range []string{"\x08", "\x0e", "\x1f", "!"} {
		for place := range 4 {
			checkCode(t, api.BadHeader, with(place, x), with(place, x+" "))
		}
		for place := range 3 {
			checkCode(t, api.BadHeader, with(place, " "+x), with(place, " "+x+" "), with(place, "#a\n"+x), with(place, x+"#a\n"))
		}
	}
}

// P10.1: remarks that aren't ended, and what isn't one.
func TestRemarks(t *testing.T) {
	checkCode(t, api.Truncated, "P5#", "P5##", "P5 #", "P5 # 1 1 1 ", "P5#1 1 1 ", "P5#a 2 3 255 \t\v\f", "P5 1#", "P5 1 #a", "P5 1 1#", "P5 1 1 # no end", "P5 1 1#\n#", "P5#\n", "P5#\r", "P5 1#\n", "P5 1 1 #\n", "P5 1 1#\r\n", "P6#\x00\xff", "P5#\n#")
	// No blank is a remark behind the third number, and no digit stands directly behind one that isn't ended.
	checkCode(t, api.BadHeader, "P5 1 1 255#", "P5 1 1 255#\n", "P5 1 1 255#a\n ", "P6 1 1 1#\r", "P5 1 1 #\n7#\n ")
}

// P10.1: where a number is asked for, other bytes than digits, and a digit without a blank or a remark ahead.
func TestNotNumbers(t *testing.T) {
	checkCode(t, api.BadHeader, "P51 1 1 ", "P61 1 1 ", "P50 1 1 1 ", "P55", "P5P5", "P5x", "P5-", "P5\x00", "P5\xff", "P5x 1 1 1 ", "P5 x", "P5 1 x", "P5 1 1 x", "P5 1x", "P5 1x1 1 ", "P5 1 1x", "P5 1 1 1x", "P5 1,1 1 ", "P5 1.0 1 1 ", "P5 0x1 1 1 ", "P5 1_0 1 1 ", "P5 1e0 1 1 ")
	for x := range 256 {
		if slices.Contains(blanks, byte(x)) || x == '#' || x >= '0' && x <= '9' {
			continue
		}
		other := string([]byte{byte(x)})
		for place := range 3 {
			checkCode(t, api.BadHeader, with(place, other), with(place, " "+other), with(place, other+" "), with(place, "#a\n"+other), with(place, "#a\r"+other))
		}
	}
	for _, sign := range []string{"-", "+", "\u0661", "\u00a0", "\u2003", "\u0085", "\xa0", "\x85", "\x00", "\x80", "\xb1"} {
		for place := range 3 {
			checkCode(t, api.BadHeader, with(place, " "+sign))
		}
		checkCode(t, api.BadHeader, with(3, sign))
	}
}

// P10.1: the sizes that may be, and those that may not.
func TestSizes(t *testing.T) {
	checkAll(t, []told{
		{"P5 1 1 65535 ", Header{1, 1, 1, 65535, 13}, api.OK}, {"P5 1 1 065535 ", Header{1, 1, 1, 65535, 14}, api.OK}, {"P5 1 1 65534 ", Header{1, 1, 1, 65534, 13}, api.OK}, {"P5 1 1 256 ", Header{1, 1, 1, 256, 11}, api.OK}, {"P5 1 1 10 ", Header{1, 1, 1, 10, 10}, api.OK},
		{"P5 65536 1 1 ", Header{1, 65536, 1, 1, 13}, api.OK}, {"P5 1 65536 1 ", Header{1, 1, 65536, 1, 13}, api.OK}, {"P6 65536 1 1 ", Header{3, 65536, 1, 1, 13}, api.OK}, {"P6 1 65536 1 ", Header{3, 1, 65536, 1, 13}, api.OK}, {"P5 1 0000000065536 1 ", Header{1, 1, 65536, 1, 21}, api.OK},
		// As many samples as there may be.
		{"P5 16384 16384 255 ", Header{1, 16384, 16384, 255, 19}, api.OK}, {"P5 65536 4096 255 ", Header{1, 65536, 4096, 255, 18}, api.OK}, {"P5 4096 65536 255 ", Header{1, 4096, 65536, 255, 18}, api.OK}, {"P6 6235 14351 9 ", Header{3, 6235, 14351, 9, 16}, api.OK}, {"P6 65536 1365 9 ", Header{3, 65536, 1365, 9, 16}, api.OK}, {"P6 1365 65536 9 ", Header{3, 1365, 65536, 9, 16}, api.OK},
	})
	checkCode(t, api.TooLarge, "P5 16385 16384 255 ", "P5 16384 16385 255 ", "P5 65536 4097 255 ", "P5 4097 65536 255 ", "P5 65536 65536 255 ", "P6 6236 14351 9 ", "P6 6235 14352 9 ", "P6 65536 1366 9 ", "P6 16384 16384 255 ", "P6 65536 65536 255 ")
	checkCode(t, api.BadHeader, "P5 0 1 1 ", "P5 1 0 1 ", "P5 1 1 0 ", "P5 0 0 0 ", "P5 00 1 1 ", "P5 1 00 1 ", "P5 1 1 00 ", "P6 0 1 1 ", "P6 1 0 1 ", "P6 1 1 0 ", "P5 1 1 000000000000000000000000000000 ", "P5 0 65536 1 ", "P5 -1 1 1 ", "P5 1 -1 1 ", "P5 1 1 -1 ")
	// Numbers that go round to one that may be, in some count of bits, are among these.
	for _, great := range []string{"65537", "65538", "99999", "100000", "131073", "999999999", "1000000000", "1000000001", "2147483647", "2147483648", "2147483649", "4294967295", "4294967296", "4294967297", "9999999999", "10000000001", "9223372036854775807", "9223372036854775808", "9223372036854775809", "18446744073709551615", "18446744073709551616", "18446744073709551617", "99999999999999999999", thirty, "340282366920938463463374607431768211457", strings.Repeat("0", 40) + "65537", "1" + strings.Repeat("0", 300), strings.Repeat("9", 5000)} {
		checkCode(t, api.TooLarge, "P5 "+great+" 1 1 ", "P5 1 "+great+" 1 ", "P6 "+great+" "+great+" 1 ", "P6 1 "+great+" 65535 ")
		checkCode(t, api.BadHeader, "P5 1 1 "+great+" ", "P6 1 1 "+great+" ", "P5 "+great+" 0 1 ", "P5 0 "+great+" 1 ", "P5 "+great+" 1 0 ", "P5 1 "+great+" 0 ", "P5 "+great+" 1 65536 ", "P5 "+great+" "+great+" "+great+" ")
		checkCode(t, api.Truncated, "P5 "+great, "P5 1 "+great, "P5 1 1 "+great, "P5 "+great+" 1 1")
		checkCode(t, api.BadHeader, "P5 "+great+"x", "P5 1 1 "+great+"#")
	}
	checkCode(t, api.BadHeader, "P5 1 1 65536 ", "P6 1 1 65536 ", "P5 1 1 065536 ", "P5 1 1 65537 ", "P5 1 1 70000 ", "P5 1 1 100000 ", "P5 1 1 131071 ", "P5 1 1 65536\n")
}

// P10.1: of two faults the first one from the left; those of the bytes ahead of those of the values, of these noughts ahead of what doesn't fit.
func TestTwoFaults(t *testing.T) {
	checkCode(t, api.BadMagic, "P", "P4", "P4x", "P4 x", "P4 0 0 0 ", "P4 65537 1 0 ", "P41 1 1 ", "p")
	checkCode(t, api.Truncated, "P5 0", "P5 0 ", "P5 0 0 0", "P5 0 1 #", "P5 1 1 0", "P5 65537", "P5 65537 65537 1", "P5 1 1 65536", "P5 1 1 "+thirty, "P5#x", "P5# -1")
	checkCode(t, api.BadHeader, "P5x", "P5 x#", "P5 1 x ", "P5 65537 x", "P5 65537 65537 1x", "P6 65536 65536 x", "P5 65537 1 1#", "P5 1x#", "P5 1 1 1x")
	checkCode(t, api.BadHeader, "P5 65537 0 1 ", "P5 0 65537 1 ", "P5 65537 1 0 ", "P5 1 65537 0 ", "P5 65537 1 65536 ", "P5 1 65537 65536 ", "P6 65536 65536 0 ", "P6 65536 65536 65536 ", "P6 16384 16384 65536 ", "P5 0 1 65536 ")
}

var (
	firstTwo = regexp.MustCompile(`^P[56]`)
	gap      = regexp.MustCompile(`^(?:[\x09-\x0d\x20]|#[^\x0a\x0d]*[\x0a\x0d])*`)
	digits   = regexp.MustCompile(`^[0-9]+`)
)

// tell: what the chapter's words make of bytes, over unbounded integers.
func tell(text string) (Header, api.Code) {
	if !firstTwo.MatchString(text) {
		return Header{}, api.BadMagic
	}
	var numbers []*big.Int
	rest := text[2:]
	for range 3 {
		ahead := gap.FindString(rest)
		rest = rest[len(ahead):]
		if rest == "" || rest[0] == '#' {
			return Header{}, api.Truncated
		}
		number := digits.FindString(rest)
		if number == "" || ahead == "" {
			return Header{}, api.BadHeader
		}
		rest = rest[len(number):]
		value, _ := new(big.Int).SetString(number, 10)
		numbers = append(numbers, value)
	}
	if rest == "" {
		return Header{}, api.Truncated
	}
	if !strings.Contains("\t\n\v\f\r ", rest[:1]) {
		return Header{}, api.BadHeader
	}
	return weigh(text, len(text)-len(rest)+1, numbers)
}

// weigh: a head of these numbers, or their code.
func weigh(text string, size int, numbers []*big.Int) (Header, api.Code) {
	channels := 1
	if text[1] == '6' {
		channels = 3
	}
	for _, n := range numbers {
		if n.Sign() == 0 {
			return Header{}, api.BadHeader
		}
	}
	if numbers[2].Cmp(big.NewInt(65535)) > 0 {
		return Header{}, api.BadHeader
	}
	count := new(big.Int).Mul(numbers[0], numbers[1])
	count.Mul(count, big.NewInt(int64(channels)))
	side := big.NewInt(1 << 16)
	if numbers[0].Cmp(side) > 0 || numbers[1].Cmp(side) > 0 || count.Cmp(big.NewInt(1<<28)) > 0 {
		return Header{}, api.TooLarge
	}
	return Header{channels, int(numbers[0].Int64()), int(numbers[1].Int64()), int(numbers[2].Int64()), size}, api.OK
}

// checkTold: is a text parsed to what the chapter's words make of it?
func checkTold(t *testing.T, text string) api.Code {
	t.Helper()
	h, e := parse(t, text)
	if wantHead, wantCode := tell(text); h != wantHead || e != wantCode {
		t.Errorf("%q: %v and %d, not %v and %d", text, h, e, wantHead, wantCode)
	}
	return e
}

// P10.1, P10.3: all short texts of some bytes, against the chapter's words.
func TestShortTexts(t *testing.T) {
	const letters = "07#\n x"
	var grow func(text string, more int)
	count := map[api.Code]int{}
	grow = func(text string, more int) {
		count[checkTold(t, text)]++
		if more == 0 {
			return
		}
		for i := range len(letters) {
			grow(text+letters[i:i+1], more-1)
		}
	}
	grow("P5", 7)
	grow("P6 7#\n7", 4)
	grow("P6 65536\n", 4)
	if count[api.OK] == 0 || count[api.BadHeader] == 0 || count[api.Truncated] == 0 || count[api.BadMagic] != 0 {
		t.Error(count)
	}
}

// P10.1, P10.3: heads of which one byte is another, is left out or is put in, against the chapter's words.
func TestOneByte(t *testing.T) {
	for _, text := range []string{"P5 2 3\n255 ", "P6#a\n#b\r12 # c\n 3\t65535\nxyz", "P6 65536 1365 9 ", "P5 16384 16384 65535\r", "P5 99999 1 1 #", "P5\v#\r4#1\n4\f" + thirty + "\n"} {
		checkTold(t, text)
		for i := range len(text) {
			checkTold(t, text[:i]+text[i+1:])
			for x := range 256 {
				other := string([]byte{byte(x)})
				checkTold(t, text[:i]+other+text[i+1:])
				checkTold(t, text[:i]+other+text[i:])
			}
		}
	}
}

// P10.1, P10.3: numbers that are all about the bounds, against the chapter's words.
func TestValues(t *testing.T) {
	values := []string{"0", "00", "1", "01", "2", "1365", "1366", "4096", "4097", "16384", "16385", "65535", "65536", "65537", "999999999", "1000000000", "4294967297", "18446744073709551617", thirty}
	for _, begin := range []string{"P5 ", "P6\n", "P5#\n"} {
		for _, width := range values {
			for _, height := range values {
				for _, most := range values {
					checkTold(t, begin+width+" "+height+"#\n"+most+"\n")
				}
			}
		}
	}
}

// P10.1: a remark of many bytes, many remarks, many blanks.
func TestLong(t *testing.T) {
	for _, ahead := range []string{"#" + strings.Repeat("x", 1<<20) + "\n", strings.Repeat("#\r", 1<<19), strings.Repeat(" ", 1<<20), strings.Repeat("#a\n ", 1<<18), " " + strings.Repeat("0", 1<<20)} {
		for place := range 3 {
			text := with(place, ahead)
			if h, e := Parse([]byte(text)); h != (Header{1, 2, 3, 255, len(text)}) || e != api.OK {
				t.Errorf("%d bytes ahead at %d: %v and %d", len(ahead), place, h, e)
			}
		}
	}
}

// P10.2: the text of any head.
func TestText(t *testing.T) {
	for _, c := range []struct {
		h    Header
		want string
	}{
		{Header{1, 2, 3, 255, 11}, "P5\n2 3\n255\n"}, {Header{3, 2, 3, 255, 11}, "P6\n2 3\n255\n"}, {Header{3, 12, 3, 7, 0}, "P6\n12 3\n7\n"}, {Header{1, 65536, 4096, 65535, 0}, "P5\n65536 4096\n65535\n"}, {Header{1, 1, 1, 1, 0}, "P5\n1 1\n1\n"}, {Header{1, 10, 100, 1000, 0}, "P5\n10 100\n1000\n"},
		// The size isn't told.
		{Header{1, 2, 3, 255, -7}, "P5\n2 3\n255\n"}, {Header{1, 2, 3, 255, greatest}, "P5\n2 3\n255\n"},
		// Other channels.
		{Header{}, "P5\n0 0\n0\n"}, {Header{0, 1, 2, 3, 4}, "P5\n1 2\n3\n"}, {Header{2, 1, 2, 3, 4}, "P5\n1 2\n3\n"}, {Header{4, 1, 2, 3, 4}, "P5\n1 2\n3\n"}, {Header{5, 1, 2, 3, 4}, "P5\n1 2\n3\n"}, {Header{6, 1, 2, 3, 4}, "P5\n1 2\n3\n"}, {Header{-1, 1, 2, 3, 4}, "P5\n1 2\n3\n"}, {Header{-3, 1, 2, 3, 4}, "P5\n1 2\n3\n"}, {Header{1<<32 + 3, 1, 2, 3, 4}, "P5\n1 2\n3\n"}, {Header{least, 1, 2, 3, 4}, "P5\n1 2\n3\n"}, {Header{least + 3, 1, 2, 3, 4}, "P5\n1 2\n3\n"}, {Header{greatest, 1, 2, 3, 4}, "P5\n1 2\n3\n"},
		// Numbers that there are in no head.
		{Header{3, 0, 0, 0, 0}, "P6\n0 0\n0\n"}, {Header{1, -1, -20, -300, 0}, "P5\n-1 -20\n-300\n"}, {Header{3, 65537, 1 << 40, 65536, 0}, "P6\n65537 1099511627776\n65536\n"},
		{Header{1, least, greatest, least, least}, "P5\n-9223372036854775808 9223372036854775807\n-9223372036854775808\n"}, {Header{3, greatest, least, greatest, greatest}, "P6\n9223372036854775807 -9223372036854775808\n9223372036854775807\n"}, {Header{1, least + 1, 999999999, 1000000000, 0}, "P5\n-9223372036854775807 999999999\n1000000000\n"},
	} {
		if got := Text(c.h); got != c.want {
			t.Errorf("%v: %q, not %q", c.h, got, c.want)
		}
	}
}

// P10.2: which bytes are blank.
func TestBlank(t *testing.T) {
	for x := range 256 {
		if Blank(byte(x)) != slices.Contains(blanks, byte(x)) {
			t.Errorf("%d: %v", x, Blank(byte(x)))
		}
	}
}

// P10.3: a head that may be comes back from its text, whatever stands behind it.
func TestBack(t *testing.T) {
	behind := []string{"", "\n", " ", "#", "#\n", "0", "9 ", "x", "\x00", "\xff\xfe", "P5 1 1 1 "}
	for _, channels := range []int{1, 3} {
		for _, sides := range [][2]int{{1, 1}, {2, 3}, {3, 2}, {9, 10}, {10, 9}, {99, 100}, {640, 480}, {1000, 9999}, {16384, 5461}, {65536, 1}, {1, 65536}, {65535, 1365}, {1365, 65536}, {6235, 14351}} {
			for _, most := range []int{1, 2, 9, 10, 99, 100, 255, 256, 9999, 10000, 65534, 65535} {
				h := Header{Channels: channels, Width: sides[0], Height: sides[1], Most: most}
				text := Text(h)
				if again := Text(h); again != text {
					t.Errorf("%v: %q, then %q", h, text, again)
				}
				h.Size = len(text)
				for _, more := range behind {
					if got, e := parse(t, text+more); got != h || e != api.OK {
						t.Errorf("%q: %v and %d", text+more, got, e)
					}
				}
				if _, e := parse(t, text[:len(text)-1]); e != api.Truncated {
					t.Errorf("%q without its end: %d", text, e)
				}
			}
		}
	}
	for most := 1; most <= 65535; most++ {
		h := Header{1, 1, most, most, len("P5\n1 \n\n") + 2*len(strconv.Itoa(most))}
		if got, e := Parse([]byte(Text(h))); got != h || e != api.OK {
			t.Errorf("%v: %v and %d", h, got, e)
		}
	}
}

// P10.3: what was handed in isn't kept: what is done to it later changes no answer.
func TestNotKept(t *testing.T) {
	b := []byte("P5 2 3\n255 ")
	h, e := Parse(b)
	clear(b)
	if h != (Header{1, 2, 3, 255, 11}) || e != api.OK {
		t.Error(h, e)
	}
	if h, e := Parse(b); h != (Header{}) || e != api.BadMagic {
		t.Error("behind clear", h, e)
	}
	copy(b, "P6 1 1\n255 ")
	if h, e := Parse(b); h != (Header{3, 1, 1, 255, 11}) || e != api.OK {
		t.Error("behind copy", h, e)
	}
}
