package pnm

import (
	"bytes"
	"fmt"
	"math"
	"math/big"
	"slices"
	"strings"
	"testing"

	"smalto/api"
	"smalto/header"
	"smalto/raster"
)

const (
	least    = math.MinInt
	greatest = math.MaxInt
	behind   = "\xff\xfeP5 1 1 9 \x05" // what stands in the spare room of bytes that are handed in
)

// sizes: of an image.
type sizes struct{ width, height, channels, most int }

// told: an image and bytes that are to be decoded to it.
type told struct {
	text string
	sizes
	samples []uint16
}

// image: one that there is.
func image(t *testing.T, s sizes, l []uint16) *raster.Image {
	t.Helper()
	m, e := raster.Of(s.width, s.height, s.channels, s.most, l)
	if e != api.OK {
		t.Fatalf("%v: %d", s, e)
	}
	return m
}

// encode: an image, which is to stay as it was.
func encode(t *testing.T, m *raster.Image) string {
	t.Helper()
	before := m.Copy()
	b := Encode(m)
	if !m.Same(before) {
		t.Fatalf("%q: the image has changed", b)
	}
	return string(b)
}

// decode: bytes that stand in spare room of their own, which are to stay as they were; and the same without spare room.
func decode(t *testing.T, text string) (*raster.Image, api.Code) {
	t.Helper()
	whole := []byte(text + behind)
	m, e := Decode(whole[:len(text)])
	if string(whole) != text+behind {
		t.Fatalf("%q: bytes have changed", text)
	}
	if (m == nil) != (e != api.OK) {
		t.Fatalf("%q: %v beside %d", text, m, e)
	}
	if n, f := Decode(slices.Clip([]byte(text))); f != e || !n.Same(m) {
		t.Fatalf("%q: %d with spare room, %d without", text, e, f)
	}
	return m, e
}

// checkImage: are bytes decoded to just this?
func checkImage(t *testing.T, c told) {
	t.Helper()
	m, e := decode(t, c.text)
	if e != api.OK {
		t.Errorf("%q: %d", c.text, e)
		return
	}
	if got := (sizes{m.Width(), m.Height(), m.Channels(), m.Most()}); got != c.sizes || !slices.Equal(m.Samples(), c.samples) {
		t.Errorf("%q: %v, %d, not %v, %d", c.text, got, m.Samples(), c.sizes, c.samples)
	}
}

// checkCode: are all of them decoded to nothing but a code?
func checkCode(t *testing.T, code api.Code, l ...string) {
	t.Helper()
	for _, text := range l {
		if _, e := decode(t, text); e != code {
			t.Errorf("%q: %d, not %d", text, e, code)
		}
	}
}

// some: samples from 0 up to most, again and again, most ahead.
func some(count, most int) []uint16 {
	l := make([]uint16, count)
	for i := range l {
		l[i] = uint16((most + i*(most/7+1)) % (most + 1))
	}
	l[0] = uint16(most)
	return l
}

// tellBytes: an image's bytes by the chapter's words.
func tellBytes(s sizes, l []uint16) string {
	kind := map[int]int{1: 5, 3: 6}[s.channels]
	text := fmt.Sprintf("P%d\n%d %d\n%d\n", kind, s.width, s.height, s.most)
	for _, v := range l {
		if s.most < 256 {
			text += string([]byte{byte(v)})
		} else {
			text += string([]byte{byte(v / 256), byte(v % 256)})
		}
	}
	return text
}

// mosts: greatest samples about those where something is another.
var mosts = []int{1, 2, 9, 127, 128, 254, 255, 256, 257, 300, 511, 512, 32767, 32768, 65279, 65280, 65534, 65535}

// shapes: widths and heights.
var shapes = [][2]int{{1, 1}, {2, 1}, {1, 2}, {2, 2}, {3, 2}, {2, 3}, {7, 1}, {1, 7}, {5, 4}, {10, 9}, {13, 11}}

// these: images and their bytes, as Encode writes them.
func these() []told {
	return []told{
		{"P5\n2 1\n255\n\x07\x08", sizes{2, 1, 1, 255}, []uint16{7, 8}},
		{"P6\n2 1\n255\n\x01\x02\x03\x04\x05\x06", sizes{2, 1, 3, 255}, []uint16{1, 2, 3, 4, 5, 6}},
		// An image of one sample, of one pixel.
		{"P5\n1 1\n1\n\x00", sizes{1, 1, 1, 1}, []uint16{0}}, {"P5\n1 1\n1\n\x01", sizes{1, 1, 1, 1}, []uint16{1}}, {"P5\n1 1\n9\n\x05", sizes{1, 1, 1, 9}, []uint16{5}}, {"P6\n1 1\n1\n\x00\x01\x00", sizes{1, 1, 3, 1}, []uint16{0, 1, 0}},
		// One row, one column, rows from the top.
		{"P5\n5 1\n9\n\x01\x02\x03\x04\x05", sizes{5, 1, 1, 9}, []uint16{1, 2, 3, 4, 5}}, {"P5\n1 5\n9\n\x01\x02\x03\x04\x05", sizes{1, 5, 1, 9}, []uint16{1, 2, 3, 4, 5}}, {"P5\n3 2\n9\n\x01\x02\x03\x04\x05\x06", sizes{3, 2, 1, 9}, []uint16{1, 2, 3, 4, 5, 6}}, {"P6\n1 2\n9\n\x01\x02\x03\x04\x05\x06", sizes{1, 2, 3, 9}, []uint16{1, 2, 3, 4, 5, 6}},
		// Samples that are bytes of a head, or ends of lines, are samples.
		{"P5\n3 3\n255\n\n\r# P5\x00\xff9", sizes{3, 3, 1, 255}, []uint16{10, 13, 35, 32, 80, 53, 0, 255, 57}}, {"P5\n2 1\n256\n\x00\n\x00#", sizes{2, 1, 1, 256}, []uint16{10, 35}},
		// One byte up to a greatest sample of 255, from 256 on two, the higher one first.
		{"P5\n4 1\n255\n\x00\x01\xfe\xff", sizes{4, 1, 1, 255}, []uint16{0, 1, 254, 255}}, {"P5\n2 1\n254\n\x00\xfe", sizes{2, 1, 1, 254}, []uint16{0, 254}},
		{"P5\n4 1\n256\n\x00\x00\x00\x01\x00\xff\x01\x00", sizes{4, 1, 1, 256}, []uint16{0, 1, 255, 256}}, {"P5\n3 1\n257\n\x01\x01\x01\x00\x00\xff", sizes{3, 1, 1, 257}, []uint16{257, 256, 255}},
		{"P5\n1 6\n65535\n\x00\x00\x00\xff\x01\x00\xff\x00\xff\xfe\xff\xff", sizes{1, 6, 1, 65535}, []uint16{0, 255, 256, 65280, 65534, 65535}}, {"P6\n1 2\n300\n\x00\x00\x00\x01\x01\x2c\x01\x00\x00\xff\x00\x02", sizes{1, 2, 3, 300}, []uint16{0, 1, 300, 256, 255, 2}},
		{"P6\n2 2\n65535\n\x12\x34\x56\x78\x9a\xbc\xde\xf0\x00\x01\x02\x03\x04\x05\x06\x07\x08\x09\x0a\x0b\x0c\x0d\x0e\x0f", sizes{2, 2, 3, 65535}, []uint16{0x1234, 0x5678, 0x9abc, 0xdef0, 1, 0x203, 0x405, 0x607, 0x809, 0xa0b, 0xc0d, 0xe0f}},
	}
}

// P11.1, P11.3: the bytes of images, and back.
func TestEncode(t *testing.T) {
	for _, c := range these() {
		if got := encode(t, image(t, c.sizes, c.samples)); got != c.text {
			t.Errorf("%v, %d: %q, not %q", c.sizes, c.samples, got, c.text)
		}
		checkImage(t, c)
	}
	// What was set tells, not what the image was made of.
	m := image(t, sizes{2, 1, 1, 300}, []uint16{1, 2})
	m.Set(1, 0, 0, 259)
	if got := encode(t, m); got != "P5\n2 1\n300\n\x00\x01\x01\x03" {
		t.Errorf("%q", got)
	}
	m, _ = raster.New(2, 2, 3, 255)
	if got := encode(t, m); got != "P6\n2 2\n255\n"+strings.Repeat("\x00", 12) {
		t.Errorf("%q", got)
	}
}

// P11.1: heads of all kinds ahead of the samples.
func TestHeads(t *testing.T) {
	two := sizes{2, 1, 1, 9}
	for _, head := range []string{"P5 2 1 9 ", "P5\n2 1\n9\n", "P5\t2\v1\f9\r", "P5 2 1 9\t", "P5 2 1 9\v", "P5 2 1 9\f", "P5 2 1 9\r", "P5#a\n2#b\r1#\n9\n", "P5 # 3 3 3 \n2 1 9 ", "P5 #\x00\xff\n #\r\n 2  1\r\n\r\n9 ", "P5 02 0001 000000000000000000000000000009 ", "P5\n#" + strings.Repeat("x", 5000) + "\n2 1 9\n"} {
		checkImage(t, told{head + "\x05\x09", two, []uint16{5, 9}})
		checkImage(t, told{head + "\x00\x00", two, []uint16{0, 0}})
		checkCode(t, api.Truncated, head, head+"\x05")
		checkCode(t, api.SampleAboveMaxval, head+"\x05\n")
	}
	// But one blank byte ends a head: another one, or a remark, is samples.
	checkImage(t, told{"P5 1 2 35\r\n#", sizes{1, 2, 1, 35}, []uint16{10, 35}})
	checkImage(t, told{"P5 1 2 255  #\n\x01\x02", sizes{1, 2, 1, 255}, []uint16{32, 35}})
	checkImage(t, told{"P5 2 1 08300  \x01\x00#", sizes{2, 1, 1, 8300}, []uint16{0x2001, 0x23}})
}

// P11.1: what stands behind the samples isn't looked at, be it above the greatest one, another image or whatever.
func TestBehind(t *testing.T) {
	for _, c := range these() {
		for _, more := range []string{"\x00", "\n", " ", "#", "\xff", "\xff\xff", "\xff\xff\xff", "P5 1 1 1 \x01", "P6 65537 0 x", c.text, strings.Repeat("\xfe", 5000)} {
			checkImage(t, told{c.text + more, c.sizes, c.samples})
		}
		for x := range 256 {
			checkImage(t, told{c.text + string([]byte{byte(x)}), c.sizes, c.samples})
		}
	}
}

// P11.1: bytes without a head, by each of Parse's codes.
func TestNoHead(t *testing.T) {
	for _, b := range [][]byte{nil, {}, make([]byte, 0, 9), []byte("P5 1 1 9 \x05")[:0]} {
		if m, e := Decode(b); m != nil || e != api.BadMagic {
			t.Errorf("%q: %v and %d", b, m, e)
		}
	}
	checkCode(t, api.BadMagic, "", "P", "5", "P4", "P7 1 1 9 \x05", "p5 1 1 9 \x05", " P5 1 1 9 \x05", "\x05", "#P5\nP5 1 1 9 \x05", "P2 1 1 9 5")
	checkCode(t, api.Truncated, "P5", "P6", "P5 ", "P5#", "P5 # 1 1 9 \x05", "P5 1", "P5 1 ", "P5 1 1", "P5 1 1 #", "P5 1 1 9", "P6 1 1 255", "P5 65537 1 9", "P5 0 1 9")
	checkCode(t, api.BadHeader, "P5x", "P51 1 9 \x05", "P5 x 1 9 \x05", "P5 -1 1 9 \x05", "P5 1 x", "P5 1 1 9x\x05", "P5 1 1 9#\n\x05", "P5 1 1 9\x00\x05", "P5 0 1 9 \x05", "P5 1 0 9 \x05", "P5 1 1 0 \x00", "P5 1 1 65536 \x00\x00", "P5 1 1 99999999999 \x00\x00", "P6 0 0 0 ", "P6 1 1 x")
	checkCode(t, api.TooLarge, "P5 65537 1 9 \x05", "P5 1 65537 9 \x05", "P5 16385 16384 9 \x05", "P5 16384 16385 9 \x05", "P6 65536 1366 9 \x05", "P6 16384 16384 255 ", "P5 18446744073709551617 1 9 \x05", "P5 4294967297 1 9 \x05")
}

// P11.1: bytes that are cut off behind each of them.
func TestCutOff(t *testing.T) {
	texts := []string{"P5 3 2 9 \x01\x02\x03\x04\x05\x06", "P6#a\n 1\t2 #b\r300\n\x00\x01\x00\x02\x00\x03\x00\x04\x00\x05\x00\x06"}
	for _, c := range these() {
		texts = append(texts, c.text)
	}
	for _, text := range texts {
		for n := range len(text) {
			want := api.Truncated
			if n < 2 {
				want = api.BadMagic
			}
			checkCode(t, want, text[:n])
		}
		checkCode(t, api.OK, text)
	}
}

// P11.1: a head alone, one byte too few, half a sample too few, just as many, and one more.
func TestCount(t *testing.T) {
	for _, channels := range []int{1, 3} {
		for _, shape := range shapes {
			for _, most := range mosts {
				s := sizes{shape[0], shape[1], channels, most}
				count := s.width * s.height * channels
				if most >= 256 {
					count *= 2
				}
				head := tellBytes(s, nil)
				checkCode(t, api.Truncated, head, head+strings.Repeat("\x00", count-1), head+strings.Repeat("\x00", count/2))
				checkCode(t, api.OK, head+strings.Repeat("\x00", count), head+strings.Repeat("\x00", count+1), head+strings.Repeat("\x00", 2*count))
			}
		}
	}
	checkCode(t, api.Truncated, "P5 1 1 255 ", "P5 1 1 256 ", "P5 1 1 256 \x00", "P5 2 1 256 \x00\x00", "P5 2 1 256 \x00\x00\x00", "P6 1 1 255 \x01\x02", "P6 1 1 256 \x00\x01\x00\x02\x00", "P5 1 2 255 \x01", "P6 2 1 9 \x01\x02\x03")
	checkCode(t, api.OK, "P5 1 1 255 \x00", "P5 1 1 256 \x00\x00", "P6 1 1 255 \x01\x02\x03", "P6 1 1 256 \x00\x01\x00\x02\x00\x03")
	// Of a large image there are few bytes.
	checkCode(t, api.Truncated, "P5 65536 4096 65535 ", "P5 16384 16384 255 \x01", "P6 1365 65536 65535 \x01\x02", "P6 65536 1 1 "+strings.Repeat("\x01", 65536), "P5 65536 1 256 "+strings.Repeat("\x00", 131071))
	checkCode(t, api.OK, "P6 65536 1 1 "+strings.Repeat("\x01", 3*65536), "P5 1 65536 256 "+strings.Repeat("\x00", 131072))
}

// P11.1: the greatest sample and the one above it, at the first, at a middle and at the last place; and behind that.
func TestAbove(t *testing.T) {
	for _, channels := range []int{1, 3} {
		for _, most := range mosts {
			s := sizes{3, 3, channels, most}
			count := 9 * channels
			for place := range count {
				l := some(count, most)
				l[place] = uint16(most)
				checkImage(t, told{tellBytes(s, l), s, l})
				if most == 255 || most == 65535 {
					continue
				}
				l = make([]uint16, count)
				l[place] = uint16(most + 1)
				checkCode(t, api.SampleAboveMaxval, tellBytes(s, l), tellBytes(s, l)+"\x00")
			}
		}
	}
}

// P11.1: all samples that bytes can tell, of greatest samples of all kinds.
func TestAllSamples(t *testing.T) {
	for _, most := range mosts {
		s := sizes{1, 1, 1, most}
		bytesOf := 256
		if most >= 256 {
			bytesOf = 65536
		}
		head := []byte(tellBytes(s, nil))
		for v := range bytesOf {
			b := append(slices.Clone(head), byte(v))
			if most >= 256 {
				b = append(slices.Clone(head), byte(v/256), byte(v%256))
			}
			m, e := Decode(b)
			if v > most {
				if m != nil || e != api.SampleAboveMaxval {
					t.Errorf("%d, up to %d: %d", v, most, e)
				}
			} else if e != api.OK || int(m.At(0, 0, 0)) != v || !bytes.Equal(Encode(m), b) {
				t.Errorf("%d, up to %d: %d", v, most, e)
			}
		}
	}
}

// P11.1: of two faults Parse's codes ahead of Truncated, that ahead of SampleAboveMaxval.
func TestTwoFaults(t *testing.T) {
	checkCode(t, api.BadMagic, "P4 1 1 9 ", "P4 1 1 9 \x0a", "P4 0 1 9", "P")
	checkCode(t, api.BadHeader, "P5 0 1 9 ", "P5 1 0 9 ", "P5 1 1 0 ", "P5 1 1 65536 ", "P5 1 1 0 \xff", "P5 1 1 0 \x01", "P6 0 1 9 \x0a", "P5 1 0 9 \x0a", "P5 1 1 9x", "P5 1 1 9#\xff", "P5 1 1 65536 \xff\xff")
	checkCode(t, api.TooLarge, "P5 65537 1 9 ", "P5 65537 1 9 \x0a", "P6 65536 65536 256 \xff\xff", "P6 16384 16384 9 \xff", "P5 1 65537 65535 ")
	checkCode(t, api.Truncated, "P5 2 1 9 \x0a", "P5 2 1 9 \xff", "P5 1 2 256 \xff\xff", "P5 1 2 256 \xff\xff\xff", "P5 1 1 256 \xff", "P6 1 1 9 \x0a\x0a", "P6 65536 1365 256 \xff\xff", "P5 1 1 9")
	checkCode(t, api.SampleAboveMaxval, "P5 2 1 9 \x0a\x0b", "P5 2 1 9 \x0a\x00 ", "P5 1 1 256 \x01\x01\xff", "P6 1 1 9 \x00\x00\x0a")
}

// tell: what the chapter's words make of bytes, upon Parse.
func tell(b []byte) (told, api.Code) {
	h, e := header.Parse(b)
	if e != api.OK {
		return told{}, e
	}
	samples := []uint16{}
	rest := b[h.Size:]
	for range h.Width * h.Height * h.Channels {
		if len(rest) == 0 || h.Most >= 256 && len(rest) == 1 {
			return told{}, api.Truncated
		}
		if h.Most < 256 {
			samples, rest = append(samples, uint16(rest[0])), rest[1:]
		} else {
			samples, rest = append(samples, uint16(rest[0])*256+uint16(rest[1])), rest[2:]
		}
	}
	for _, v := range samples {
		if int(v) > h.Most {
			return told{}, api.SampleAboveMaxval
		}
	}
	return told{string(b), sizes{h.Width, h.Height, h.Channels, h.Most}, samples}, api.OK
}

// P11.1: images' bytes of which one is another, is left out or is put in, against the chapter's words.
func TestOneByte(t *testing.T) {
	count := map[api.Code]int{}
	check := func(text string) {
		c, e := tell([]byte(text))
		count[e]++
		if e == api.OK {
			checkImage(t, c)
		} else {
			checkCode(t, e, text)
		}
	}
	for _, text := range []string{"P5 2 3\n9 \x01\x02\x03\x04\x05\x09", "P5#a\n2 1\t258#\n\r\x01\x02\x00\xff", "P6 1 2 256 \x00\x01\x00\xff\x01\x00\x00\x03\x00\x04\x00\x05", "P6\n1 1\n255\n\xff\x00\x20", "P5 65536 4096 9 \x01", "P5 2 1 65535 1234"} {
		check(text)
		for i := range len(text) {
			check(text[:i] + text[i+1:])
			for x := range 256 {
				other := string([]byte{byte(x)})
				check(text[:i] + other + text[i+1:])
				check(text[:i] + other + text[i:])
			}
		}
	}
	for e := api.OK; e <= api.TooLarge; e++ {
		if count[e] == 0 {
			t.Errorf("no text of code %d", e)
		}
	}
}

// P11.2: of all greatest samples that there are, and of others.
func TestWidth(t *testing.T) {
	for _, most := range []int{0, 1, 2, 9, 127, 128, 254, 255, -1, -2, -255, -256, -257, -65535, -65536, -1 << 31, -1 << 32, -1<<32 + 256, -1 << 62, least, least + 1, least + 256, least + 65535} {
		if got := Width(most); got != 1 {
			t.Errorf("%d: %d", most, got)
		}
	}
	for _, most := range []int{256, 257, 300, 511, 512, 65280, 65534, 65535, 65536, 65537, 1 << 24, 1 << 31, 1 << 32, 1<<32 + 1, 1<<32 + 255, 1 << 62, greatest - 1, greatest} {
		if got := Width(most); got != 2 {
			t.Errorf("%d: %d", most, got)
		}
	}
	for most := range 65536 {
		if got := Width(most); got != 1 && most < 256 || got != 2 && most >= 256 {
			t.Errorf("%d: %d", most, got)
		}
	}
}

// P11.2: heads that may be, and their bytes, whatever Size they tell of themselves.
func TestSize(t *testing.T) {
	for _, c := range []struct {
		h    header.Header
		want int
	}{
		{header.Header{Channels: 1, Width: 1, Height: 1, Most: 1}, 1}, {header.Header{Channels: 1, Width: 1, Height: 1, Most: 255}, 1}, {header.Header{Channels: 1, Width: 1, Height: 1, Most: 256}, 2}, {header.Header{Channels: 1, Width: 1, Height: 1, Most: 65535}, 2}, {header.Header{Channels: 3, Width: 1, Height: 1, Most: 1}, 3}, {header.Header{Channels: 3, Width: 1, Height: 1, Most: 65535}, 6},
		{header.Header{Channels: 1, Width: 2, Height: 5, Most: 255}, 10}, {header.Header{Channels: 1, Width: 2, Height: 5, Most: 256}, 20}, {header.Header{Channels: 3, Width: 2, Height: 5, Most: 255}, 30}, {header.Header{Channels: 3, Width: 2, Height: 5, Most: 256}, 60}, {header.Header{Channels: 1, Width: 640, Height: 480, Most: 254}, 307200},
		{header.Header{Channels: 1, Width: 65536, Height: 1, Most: 9}, 65536}, {header.Header{Channels: 3, Width: 1, Height: 65536, Most: 300}, 393216}, {header.Header{Channels: 1, Width: 65535, Height: 2, Most: 257}, 262140},
		// Just as many samples as there may be.
		{header.Header{Channels: 1, Width: 16384, Height: 16384, Most: 255}, 1 << 28}, {header.Header{Channels: 1, Width: 16384, Height: 16384, Most: 256}, 1 << 29}, {header.Header{Channels: 1, Width: 65536, Height: 4096, Most: 1}, 1 << 28}, {header.Header{Channels: 1, Width: 4096, Height: 65536, Most: 65535}, 1 << 29}, {header.Header{Channels: 3, Width: 6235, Height: 14351, Most: 255}, 1<<28 - 1}, {header.Header{Channels: 3, Width: 6235, Height: 14351, Most: 256}, 1<<29 - 2}, {header.Header{Channels: 3, Width: 65536, Height: 1365, Most: 65535}, 536739840},
	} {
		for _, own := range []int{0, 1, -1, 11, 1 << 28, 1<<28 + 1, -1 << 28, 1 << 31, 1 << 32, least, greatest} {
			c.h.Size = own
			if got := Size(c.h); got != c.want {
				t.Errorf("%v: %d, not %d", c.h, got, c.want)
			}
		}
	}
}

// P11.2: sizes that an image may not have.
func TestNoSize(t *testing.T) {
	none := func(channels, width, height, most int) {
		t.Helper()
		for _, own := range []int{0, 11, least, greatest} {
			if got := Size(header.Header{Channels: channels, Width: width, Height: height, Most: most, Size: own}); got != 0 {
				t.Errorf("%d, %d by %d, up to %d: %d", channels, width, height, most, got)
			}
		}
	}
	for _, n := range []int{0, -1, -2, -65536, 65537, 65538, 131072, 1 << 31, 1<<31 + 1, 1 << 32, 1<<32 + 1, -1<<32 + 1, 1 << 62, -1 << 62, least, least + 1, greatest - 1, greatest} {
		for _, other := range []int{1, 2, 65536, n, -1, 0} {
			none(1, n, other, 255)
			none(3, n, other, 256)
			none(1, other, n, 256)
			none(3, other, n, 255)
		}
	}
	for _, channels := range []int{0, 2, 4, 5, 6, -1, -3, 255, 1<<32 + 1, 1<<32 + 3, least, least + 1, least + 3, greatest} {
		none(channels, 1, 1, 255)
		none(channels, 2, 3, 256)
		none(channels, 0, 65537, 255)
	}
	for _, most := range []int{0, -1, -2, -255, -65535, 65536, 65537, 1 << 31, 1 << 32, 1<<32 + 1, -1<<32 + 1, 1 << 62, least, least + 1, least + 255, greatest - 1, greatest} {
		none(1, 1, 1, most)
		none(3, 2, 3, most)
		none(1, 16384, 16384, most)
	}
	// Too many samples by a row, or by a column.
	none(1, 16384, 16385, 255)
	none(1, 16385, 16384, 255)
	none(1, 65536, 4097, 1)
	none(1, 4097, 65536, 65535)
	none(1, 65536, 65536, 255)
	none(3, 65536, 1366, 255)
	none(3, 1366, 65536, 256)
	none(3, 6235, 14352, 9)
	none(3, 6236, 14351, 9)
	none(3, 16384, 16384, 255)
	none(3, 65536, 65536, 65535)
}

// P11.2: sizes of all kinds together, against the chapter's words over unbounded integers.
func TestSizes(t *testing.T) {
	sides := []int{least, -65536, -1, 0, 1, 2, 3, 255, 1365, 1366, 4096, 4097, 16384, 16385, 65535, 65536, 65537, 1 << 32, 1<<32 + 1, greatest}
	for _, channels := range []int{least, -1, 0, 1, 2, 3, 4, greatest} {
		for _, width := range sides {
			for _, height := range sides {
				for _, most := range []int{least, -1, 0, 1, 255, 256, 65535, 65536, greatest} {
					if got, want := Size(header.Header{Channels: channels, Width: width, Height: height, Most: most}), tellSize(channels, width, height, most); got != want {
						t.Errorf("%d, %d by %d, up to %d: %d, not %d", channels, width, height, most, got, want)
					}
				}
			}
		}
	}
}

// tellSize: the bytes of the samples, of an image that may be.
func tellSize(channels, width, height, most int) int {
	within := func(n, to int) bool { return n >= 1 && n <= to }
	product := big.NewInt(1)
	for _, n := range []int{channels, width, height} {
		product.Mul(product, big.NewInt(int64(n)))
	}
	if !within(width, 65536) || !within(height, 65536) || channels != 1 && channels != 3 || !within(most, 65535) || product.Cmp(big.NewInt(1<<28)) > 0 {
		return 0
	}
	if most > 255 {
		product.Lsh(product, 1)
	}
	return int(product.Int64())
}

// P11.3: images of many shapes come back the same; a head has Size bytes behind it.
func TestBack(t *testing.T) {
	for _, channels := range []int{1, 3} {
		for _, shape := range append(slices.Clone(shapes), [][2]int{{255, 3}, {3, 256}, {65536, 1}, {1, 65536}}...) {
			for _, most := range mosts {
				s := sizes{shape[0], shape[1], channels, most}
				l := some(s.width*s.height*channels, most)
				m := image(t, s, l)
				b := Encode(m)
				n, e := Decode(b)
				if e != api.OK || !n.Same(m) || !m.Same(n) {
					t.Errorf("%v: another image, and %d", s, e)
				}
				if h, e := header.Parse(b); e != api.OK || len(b) != h.Size+Size(h) {
					t.Errorf("%v: %d bytes, %v", s, len(b), h)
				}
				if len(l) < 1000 && string(b) != tellBytes(s, l) {
					t.Errorf("%v: %q, not %q", s, b, tellBytes(s, l))
				}
			}
		}
	}
}

// P11.3: what is decoded of any head is encoded with the head's own text.
func TestForth(t *testing.T) {
	for text, want := range map[string]string{"P5 2 1 9 \x01\x02": "P5\n2 1\n9\n\x01\x02", "P5#a\n002\t1\r#\r255\f\x01\xff\x02": "P5\n2 1\n255\n\x01\xff", "P6 1 1 0256\r\x01\x00\x00\xff\x00\x01#": "P6\n1 1\n256\n\x01\x00\x00\xff\x00\x01"} {
		m, e := decode(t, text)
		if e != api.OK {
			t.Fatalf("%q: %d", text, e)
		}
		if got := encode(t, m); got != want {
			t.Errorf("%q: %q, not %q", text, got, want)
		}
	}
}

// P11.3: nothing that is handed in is kept, and answers share nothing.
func TestApart(t *testing.T) {
	for _, c := range these() {
		m := image(t, c.sizes, c.samples)
		b := Encode(m)
		other := Encode(m)
		overwrite(b)
		if string(other) != c.text || encode(t, m) != c.text || !m.Same(image(t, c.sizes, c.samples)) {
			t.Errorf("%q: an answer is shared", c.text)
		}
		wipe(m)
		if string(other) != c.text {
			t.Errorf("%q: an image is kept", c.text)
		}
		whole := []byte(c.text + behind)
		n, _ := Decode(whole[:len(c.text)])
		again, _ := Decode(whole[:len(c.text)])
		overwrite(whole)
		if want := image(t, c.sizes, c.samples); !n.Same(want) || !again.Same(want) {
			t.Errorf("%q: bytes are kept", c.text)
		}
		wipe(n)
		if !again.Same(image(t, c.sizes, c.samples)) {
			t.Errorf("%q: two images share samples", c.text)
		}
		whole = []byte(c.text + behind)
		n, _ = Decode(whole[:len(c.text)])
		wipe(n)
		if string(whole) != c.text+behind {
			t.Errorf("%q: an image is the bytes that were handed in", c.text)
		}
	}
}

// overwrite: all bytes, those of the spare room too.
func overwrite(b []byte) {
	for i := range b[:cap(b)] {
		b[:cap(b)][i] ^= 0x55
	}
}

// wipe: another sample at every place.
func wipe(m *raster.Image) {
	for y := range m.Height() {
		for x := range m.Width() {
			for c := range m.Channels() {
				m.Set(x, y, c, uint16((int(m.At(x, y, c))+1)%(m.Most()+1)))
			}
		}
	}
}
