package tests

import (
	"bytes"
	"fmt"
	"image"
	"image/color"
	"image/gif"
	"slices"
	"strings"
	"testing"

	"loop.example/intarsia/impl"
)

// blockSizes are sizes of texts that something changes at.
var blockSizes = []int{0, 1, 2, 3, 127, 128, 253, 254, 255, 256, 257, 509, 510, 511, 765, 766, 4844, 4845, 4846, impl.OutMax - 1, impl.OutMax}

func TestPromise52BlocksCanBePutTogether(t *testing.T) {
	r := dice(521)
	for _, size := range blockSizes {
		for _, text := range []string{someText(r, size), strings.Repeat("\x00", size), strings.Repeat("\xff", size)} {
			blocks := impl.BlocksPut(text)
			if blocks != blocksByWords(text) {
				t.Fatalf("%d bytes: %x", size, blocks)
			}
			if more := (size+254)/255 + 1; len(blocks) != size+more {
				t.Errorf("%d bytes: %d, not %d", size, len(blocks), size+more)
			}
			for _, ahead := range []string{"", "\x00", "\x05ab", someText(r, 300)} {
				for _, behind := range []string{"", "\x00", "\x01x\x00", someText(r, 300)} {
					got, at, ok := impl.BlocksGet(ahead+blocks+behind, len(ahead))
					if got != text || at != len(ahead)+len(blocks) || !ok {
						t.Fatalf("%d bytes behind %d: %x, %d, %v", size, len(ahead), got, at, ok)
					}
				}
			}
		}
	}
}

func TestBlocksByHand(t *testing.T) {
	for _, c := range []struct {
		text string
		want string
	}{
		{"", "\x00"},
		{"a", "\x01a\x00"},
		{"\x00", "\x01\x00\x00"},
		{"abc", "\x03abc\x00"},
		{strings.Repeat("x", 254), "\xfe" + strings.Repeat("x", 254) + "\x00"},
		{strings.Repeat("x", 255), "\xff" + strings.Repeat("x", 255) + "\x00"},
		{strings.Repeat("x", 256), "\xff" + strings.Repeat("x", 255) + "\x01x\x00"},
		{strings.Repeat("x", 510), strings.Repeat("\xff"+strings.Repeat("x", 255), 2) + "\x00"},
	} {
		if got := impl.BlocksPut(c.text); got != c.want {
			t.Errorf("%d bytes: %x", len(c.text), got)
		}
	}
	for _, size := range []int{impl.OutMax + 1, impl.OutMax + 2, impl.TextMax, 100000} {
		if got := impl.BlocksPut(strings.Repeat("x", size)); got != "" {
			t.Errorf("%d bytes: %d", size, len(got))
		}
	}
}

// checkBlocks holds what is read against the words; it tells whether it is blocks.
func checkBlocks(t *testing.T, what string, text string, at int) bool {
	t.Helper()
	want, wantAt, wantOk := blocksGetByWords(text, at)
	got, gotAt, ok := impl.BlocksGet(text, at)
	if got != want || gotAt != wantAt || ok != wantOk {
		t.Fatalf("%s, from %d: %x\n%x %d %v, not\n%x %d %v", what, at, text, got, gotAt, ok, want, wantAt, wantOk)
	}
	return ok
}

func TestBlocksGetFromAnyPlace(t *testing.T) {
	text := "\x03abc\x01d\x00\x02\x00\x01\x00"
	places := extremes
	for at := -3; at <= len(text)+3; at++ {
		places = append(places, at)
	}
	for _, at := range places {
		checkBlocks(t, "any place", text, at)
		checkBlocks(t, "no text", "", at)
		if ok := checkBlocks(t, "without its end", text[:6], at); ok {
			t.Errorf("from %d: it needs no end", at)
		}
	}
	for _, c := range []struct {
		text string
		at   int
		want string
	}{
		{text, 0, `"abcd" 7 true`},
		{text, 4, `"d" 7 true`},
		{text, 6, `"" 7 true`},
		{text, 7, `"\x00\x01" 11 true`},
		// A block of one byte, a nought, and no end behind it.
		{text, 9, `"" 0 false`},
		{text, 10, `"" 11 true`},
		{text, 11, `"" 0 false`},
		{text, 12, `"" 0 false`},
		{text, -1, `"" 0 false`},
		{"", 0, `"" 0 false`},
		{"\x01", 0, `"" 0 false`},
		{"\x01x", 0, `"" 0 false`},
		{"\x02x\x00", 0, `"" 0 false`},
		{"\x01x\x00", 3, `"" 0 false`},
	} {
		got, at, ok := impl.BlocksGet(c.text, c.at)
		if told := fmt.Sprintf("%q %d %v", got, at, ok); told != c.want {
			t.Errorf("%q from %d: %s, not %s", c.text, c.at, told, c.want)
		}
	}
}

func TestBlocksGetOfCutTexts(t *testing.T) {
	r := dice(522)
	for _, size := range []int{0, 1, 20, 255, 256, 600} {
		text := impl.BlocksPut(someText(r, size))
		for cut := range len(text) {
			if checkBlocks(t, "cut off", text[:cut], 0) {
				t.Errorf("%d bytes of %d are enough", cut, len(text))
			}
		}
	}
	read := map[bool]int{}
	for range 3000 {
		text := someText(r, r.Intn(20))
		if r.Intn(2) == 0 {
			text = hurt(r, blocksOf(someText(r, r.Intn(60)), 1+r.Intn(9), 1+r.Intn(9)))
		}
		at := 0
		if r.Intn(3) == 0 {
			at = r.Intn(len(text)+2) - 1
		}
		read[checkBlocks(t, "any text", text, at)]++
	}
	if read[true] < 300 || read[false] < 300 {
		t.Errorf("so many were read: %v", read)
	}
}

// Blocks may have any sizes, and be more than one may write.
func TestBlocksGetOfLongTexts(t *testing.T) {
	for _, size := range []int{1, 2, 254, 255} {
		for _, all := range []int{impl.TextMax - 1, impl.TextMax, impl.TextMax + 1, impl.TextMax + 2, 20000} {
			whole := strings.Repeat(lowBytes(size, 1)+strings.Repeat("x", size), all/(size+1))
			text := whole + "\x00" + strings.Repeat("y", all)
			text = text[:all]
			ok := checkBlocks(t, "a long text", text, 0)
			if len(whole) < all && ok != (all <= impl.TextMax) {
				t.Errorf("%d bytes, blocks of %d: %v", all, size, ok)
			}
			if checkBlocks(t, "a long text", text, len(whole)) != (all <= impl.TextMax && len(whole) < all) {
				t.Errorf("%d bytes, from %d on", all, len(whole))
			}
		}
	}
	full := blocksOf(strings.Repeat("x", 8963), 255)
	if len(full) != impl.TextMax || !checkBlocks(t, "full", full, 0) || checkBlocks(t, "over", full+"\x00", 0) {
		t.Errorf("a text of %d bytes", len(full))
	}
}

func TestPromise53EachRowStandsOnce(t *testing.T) {
	for high := 1; high <= impl.SizeMax; high++ {
		rows := impl.WovenRows(high)
		if !slices.Equal(rows, wovenByWords(high)) {
			t.Fatalf("%d: %v", high, rows)
		}
		if !isOrdered(slices.Sorted(slices.Values(rows))) || len(rows) != high || slices.Max(rows) != high-1 {
			t.Errorf("%d: %v", high, rows)
		}
		for i, row := range rows {
			if (row%8 == 0) != (i < (high+7)/8) {
				t.Errorf("%d: %v, at %d", high, rows, i)
			}
		}
	}
	for high, want := range map[int]string{
		1: "[0]", 2: "[0 1]", 3: "[0 2 1]", 4: "[0 2 1 3]", 5: "[0 4 2 1 3]", 8: "[0 4 2 6 1 3 5 7]", 9: "[0 8 4 2 6 1 3 5 7]",
		20: "[0 8 16 4 12 2 6 10 14 18 1 3 5 7 9 11 13 15 17 19]",
	} {
		if got := fmt.Sprint(impl.WovenRows(high)); got != want {
			t.Errorf("%d: %s", high, got)
		}
	}
	for _, high := range append([]int{0, -1, -8, impl.SizeMax + 1, 22, 100}, extremes...) {
		if rows := impl.WovenRows(high); len(rows) != 0 {
			t.Errorf("%d: %v", high, rows)
		}
	}
}

func TestPromise50APictureComesOutOfAGif(t *testing.T) {
	for i, m := range fullLists() {
		for _, woven := range []bool{false, true} {
			laid, check := guardedPicture(m)
			text := impl.GifPut(laid, woven)
			check(t, "GifPut")
			if text != gifByWords(m, woven) || text == "" {
				t.Fatalf("picture %d, woven %v: %x, not %x", i, woven, text, gifByWords(m, woven))
			}
			if got, ok := impl.GifGet(text); !ok || !samePicture(got, m) {
				t.Fatalf("picture %d, woven %v: %v %v, not %v", i, woven, got, ok, m)
			}
		}
	}
}

// Each size: of many the last rows of a turn are not there.
func TestGifOfEachSize(t *testing.T) {
	r := dice(501)
	for wide := 1; wide <= impl.SizeMax; wide++ {
		for high := 1; high <= impl.SizeMax; high++ {
			m := fullList(r, []int{1, 2, 4, 8}[(wide+high)%4], wide, high)
			for _, woven := range []bool{false, true} {
				if got, ok := impl.GifGet(impl.GifPut(m, woven)); !ok || !samePicture(got, m) {
					t.Fatalf("%d, %d: %v %v, not %v", wide, high, got, ok, m)
				}
			}
		}
	}
}

func TestGifByHand(t *testing.T) {
	m := impl.Image{Kind: impl.KindPal, Depth: 1, Wide: 2, High: 1, Colors: []int{0, 16777215}, Pix: []int{1, 0}}
	// Of three bits each: 4, 1, 0, 5.
	want := "GIF89a\x02\x00\x01\x00\x80\x00\x00\x00\x00\x00\xff\xff\xff,\x00\x00\x00\x00\x02\x00\x01\x00\x00\x02\x02\x0c\x0a\x00;"
	if got := impl.GifPut(m, false); got != want {
		t.Errorf("%x, not %x", got, want)
	}
	want = strings.Replace(want, "\x00\x00\x02\x02\x0c", "\x00\x40\x02\x02\x0c", 1)
	if got := impl.GifPut(m, true); got != want {
		t.Errorf("woven: %x, not %x", got, want)
	}
	for depth, flags := range map[int]byte{1: 0x80, 2: 0x91, 4: 0xb3, 8: 0xf7} {
		m := fullList(dice(502), depth, 3, 7)
		got := impl.GifPut(m, false)
		frame := 13 + 3<<depth
		if got[10] != flags || got[frame] != ',' || int(got[frame+10]) != max(2, depth) || got[len(got)-2:] != "\x00;" {
			t.Errorf("depth %d: %x", depth, got)
		}
	}
}

func TestGifPutOfWhatAGifCannotHold(t *testing.T) {
	for i, m := range slices.Concat(noPictures(), pictures()) {
		for _, woven := range []bool{false, true} {
			if got := impl.GifPut(m, woven); (got != "") != gifCan(m) {
				t.Errorf("picture %d: %x", i, got)
			}
		}
	}
	r := dice(503)
	for _, depth := range []int{1, 2, 4, 8} {
		for colors := 1; colors <= 1<<depth; colors++ {
			m := somePicture(r, impl.KindPal, depth, 2, 2, colors)
			if got := impl.GifPut(m, false); (got != "") != (colors == 1<<depth) {
				t.Errorf("depth %d, %d colours: %x", depth, colors, got)
			}
		}
	}
}

func TestPromise51WhatIsReadOfAGifIsOk(t *testing.T) {
	r := dice(511)
	read := map[bool]int{}
	look := func(text string) {
		t.Helper()
		ok := checkGif(t, "some", text)
		read[ok]++
		if !ok {
			return
		}
		m, _ := impl.GifGet(text)
		w := pngWays()[r.Intn(30)]
		if again, ok := impl.PngGet(w.put(m)); !impl.ImageOk(m) || m.Kind != impl.KindPal || !ok || !samePicture(again, m) {
			t.Fatalf("%x: %v, again %v %v", text, m, again, ok)
		}
		for _, more := range []string{"\x00", ";", "x", string([]byte{byte(r.Intn(256))})} {
			if more, ok := impl.GifGet(text + more); ok || !isNothing(more) {
				t.Fatalf("%x: a byte may stand behind", text)
			}
		}
	}
	for range 400 {
		g := someGif(r)
		look(g.text())
		for range 6 {
			look(hurt(r, g.text()))
			look(hurtGif(r, g).text())
		}
	}
	if read[true] < 500 || read[false] < 500 {
		t.Errorf("so many were read: %v", read)
	}
}

// smallGif is a picture, and the parts of its GIF.
func smallGif() (impl.Image, gifParts) {
	m := impl.Image{Kind: impl.KindPal, Depth: 2, Wide: 3, High: 2, Colors: []int{16711680, 65280, 255, 66051}, Pix: []int{0, 1, 2, 3, 1, 0}}
	return m, gifOf(m, false)
}

func TestGifGetOfSigns(t *testing.T) {
	m, g := smallGif()
	for _, sign := range []string{"GIF87a", "GIF89a"} {
		g.sign = sign
		if got, ok := impl.GifGet(g.text()); !ok || !samePicture(got, m) {
			t.Errorf("%s: %v %v", sign, got, ok)
		}
	}
	for _, sign := range []string{"", "GIF88a", "GIF90a", "GIF89b", "GIF89A", "gif89a", "GIF", "GIF89", "GIF87", "GIF89aa", " GIF89a", "PNG89a", "GIF97a"} {
		g.sign = sign
		checkGifParts(t, sign, g, false)
	}
}

func TestGifGetOfListsOfColours(t *testing.T) {
	r := dice(512)
	for bits := range 8 {
		count := 2 << bits
		depth := []int{1, 2, 4, 4, 8, 8, 8, 8}[bits]
		whole, own := someNumbersBelow(r, count, 1<<24), someNumbersBelow(r, count, 1<<24)
		pix := someNumbersBelow(r, 12, count)
		lzw := max(2, bits+1)
		m := impl.Image{Kind: impl.KindPal, Depth: depth, Wide: 4, High: 3, Colors: whole, Pix: pix}
		ownM := m
		ownM.Colors = own
		g := gifOf(impl.Image{Kind: impl.KindPal, Depth: 8, Wide: 4, High: 3, Pix: pix}, false)
		g.bits, g.blocks = lzw, gifPoints(pix, lzw)
		look := func(what string, g gifParts, want impl.Image, wantOk bool) {
			t.Helper()
			checkGifParts(t, fmt.Sprintf("%s, %d colours", what, count), g, wantOk)
			if got, ok := impl.GifGet(g.text()); !samePicture(got, want) || ok != wantOk {
				t.Errorf("%s, %d colours: %v %v, not %v", what, count, got, ok, want)
			}
		}
		g.flags, g.own = bits, bits
		look("none", g, impl.Image{}, false)
		of := g
		of.flags, of.colors = 128+bits, colorsByWords(whole)
		look("of the whole", of, m, true)
		of = g
		of.own, of.list = 128+bits, colorsByWords(own)
		look("its own", of, ownM, true)
		of.flags, of.colors = 128+bits, colorsByWords(whole)
		look("both", of, ownM, true)
		// The other list has another size, and does not count.
		for other := range 8 {
			of.flags, of.colors = 128+other, someText(r, 3*(2<<other))
			look("both, of another size", of, ownM, true)
			of.flags, of.colors = other, ""
			look("its own, with bits of none", of, ownM, true)
		}
		of = g
		of.flags, of.colors = 128+bits, colorsByWords(whole)
		for other := range 128 {
			of.own = other &^ 64
			look("of the whole, with bits of none", of, m, true)
		}
		for _, cut := range []int{1, 3} {
			of.colors = colorsByWords(whole)[cut:]
			look("too few", of, impl.Image{}, false)
			of.colors = colorsByWords(whole) + strings.Repeat("\x00", cut)
			look("too many", of, impl.Image{}, false)
		}
	}
}

func TestGifGetOfFlags(t *testing.T) {
	m, g := smallGif()
	for spare := range 16 {
		g.flags = 128 | spare<<3 | 1
		for own := range 4 {
			g.own = own<<3 | spare%2<<5
			if got, ok := impl.GifGet(g.text()); !ok || !samePicture(got, m) {
				t.Errorf("flags %d, %d: %v %v", g.flags, g.own, got, ok)
			}
		}
	}
	_, g = smallGif()
	for flags := range 256 {
		other := g
		other.flags = flags
		checkGif(t, "flags", other.text())
		other = g
		other.own = flags
		checkGif(t, "own flags", other.text())
	}
	for _, two := range []string{"\x00\x00", "\x01\x00", "\xff\xff", "ab"} {
		g.two = two
		checkGifParts(t, "two bytes", g, true)
	}
}

func TestGifGetOfWovenOnes(t *testing.T) {
	r := dice(513)
	for high := 1; high <= impl.SizeMax; high++ {
		m := fullList(r, 4, 2, high)
		g := gifOf(m, true)
		for _, own := range []int{64, 64 + 32, 64 + 63} {
			g.own = own
			if got, ok := impl.GifGet(g.text()); !ok || !samePicture(got, m) {
				t.Fatalf("%d rows: %v %v, not %v", high, got, ok, m)
			}
		}
		g.own = 64 + 128 + 3
		g.list = g.colors
		if got, ok := impl.GifGet(g.text()); !ok || !samePicture(got, m) {
			t.Fatalf("%d rows: %v %v, not %v", high, got, ok, m)
		}
	}
}

func TestGifGetOfWhatIsSaidBeside(t *testing.T) {
	_, g := smallGif()
	at := func(what string, said string, wantOk bool) {
		t.Helper()
		other := g
		other.ahead = said
		checkGifParts(t, what+" ahead", other, wantOk)
		other.behind = said
		checkGifParts(t, what+" on both sides", other, wantOk)
		other.ahead = ""
		checkGifParts(t, what+" behind", other, wantOk)
		other.behind = "!\xfe\x00" + said + "!\x00\x01\x00\x00"
		checkGifParts(t, what+" between others", other, wantOk)
		other.behind = ""
		for _, into := range []func(g *gifParts){
			func(g *gifParts) { g.sign += said },
			func(g *gifParts) { g.two += said },
			func(g *gifParts) { g.comma += said },
			func(g *gifParts) { g.blocks = said + g.blocks },
			func(g *gifParts) { g.end += said },
		} {
			elsewhere := g
			into(&elsewhere)
			if checkGif(t, what+" elsewhere", elsewhere.text()) {
				t.Errorf("%s may stand elsewhere: %x", what, elsewhere.text())
			}
		}
	}
	for label := range 256 {
		for _, blocks := range []string{"\x00", "\x01x\x00", "\x03\x00\x00\x00\x00", blocksOf(strings.Repeat(";", 300), 255)} {
			at(fmt.Sprint("label ", label), said(label, blocks), label != 249)
		}
		at(fmt.Sprint("label ", label), said(label, "\x04\x00\x00\x00\x00\x00"), true)
		at(fmt.Sprint("label ", label), said(label, "\x04\x01\x00\x00\x00\x00"), label != 249)
	}
	for first := range 256 {
		at(fmt.Sprint("first byte ", first), said(249, blocksOf(lowBytes(first, 1)+"abc", 255)), first%2 == 0)
	}
	for size := range 9 {
		at(fmt.Sprint(size, " bytes"), said(249, blocksOf(strings.Repeat("\x02", size), 255)), size == 4)
		// They are told together, in however many blocks.
		at(fmt.Sprint(size, " bytes, one by one"), said(249, blocksOf(strings.Repeat("\x02", size), 1)), size == 4)
	}
	for _, no := range []string{"!", "!\xfe", "!\xfe\x01", "!\xfe\x01x", "?\xfe\x00", "\x00", "!\xf9", "!!", ";", "x"} {
		at(fmt.Sprintf("%q", no), no, false)
	}
	// The end does not come at once.
	g.ahead = "!\xfe\x00!\xff\x0bNETSCAPE2.0\x03\x01\x00\x00\x00!\xf9\x04\x08\x0a\x00\x1f\x00"
	checkGifParts(t, "as one finds it", g, true)
}

func TestGifGetOfItsFrame(t *testing.T) {
	_, g := smallGif()
	change := func(what string, wantOk bool, change func(g *gifParts)) {
		t.Helper()
		other := g
		change(&other)
		checkGifParts(t, what, other, wantOk)
	}
	for at := range 4 {
		for _, b := range []byte{1, 2, 128, 255} {
			change("a corner", false, func(g *gifParts) {
				c := []byte(g.corner)
				c[at] = b
				g.corner = string(c)
			})
		}
	}
	for _, size := range []string{"\x03\x00\x01\x00", "\x02\x00\x03\x00", "\x03\x01\x02\x00", "\x00\x00\x00\x00", "\x00\x03\x00\x02"} {
		change("another size", false, func(g *gifParts) { g.size = size })
		change("another size again", false, func(g *gifParts) { g.again = size })
	}
	change("as many points otherwise", true, func(g *gifParts) { g.size, g.again = "\x02\x00\x03\x00", "\x02\x00\x03\x00" })
	change("as many points in a row", true, func(g *gifParts) { g.size, g.again = "\x06\x00\x01\x00", "\x06\x00\x01\x00" })
	for _, comma := range []string{"", ";", ",,", "!", "\x00", "+", "-"} {
		change("no comma", false, func(g *gifParts) { g.comma = comma })
	}
	for _, end := range []string{"", ",", ";;", "\x00", ":", "; ", ";\x00", ";\n"} {
		change("another end", false, func(g *gifParts) { g.end = end })
	}
	change("no picture", false, func(g *gifParts) {
		g.comma, g.corner, g.again, g.blocks = "", "", "", ""
	})
	text := g.text()
	frame := text[strings.Index(text, ",") : len(text)-1]
	for _, no := range []string{text[:len(text)-1] + frame + ";", strings.Replace(text, frame, "", 1), strings.Replace(text, frame, ";", 1), text[:13+12] + ";"} {
		if checkGif(t, "two pictures, or none", no) {
			t.Errorf("%x is read", no)
		}
	}
	for size := range len(text) {
		if checkGif(t, "cut off", text[:size]) {
			t.Errorf("%d bytes are enough", size)
		}
	}
}

func TestGifGetOfSizes(t *testing.T) {
	for _, c := range [][2]int{{0, 0}, {0, 1}, {1, 0}, {20, 20}, {21, 1}, {1, 21}, {20, 21}, {21, 20}, {256, 1}, {1, 256}, {257, 1}, {1, 257}, {65535, 65535}, {65535, 1}, {70, 71}, {5, 1000}, {2500, 2}} {
		for _, woven := range []int{0, 64} {
			size := lowBytes(c[0], 2) + lowBytes(c[1], 2)
			for _, count := range []int{c[0] * c[1], c[0] % 256 * (c[1] % 256), 0, 1} {
				if count > impl.OutMax {
					continue
				}
				_, g := smallGif()
				g.size, g.again, g.own, g.blocks = size, size, woven, gifPoints(same(1, count), 2)
				checkGifParts(t, fmt.Sprint(c, count), g, c == [2]int{20, 20} && count == 400)
			}
		}
	}
}

func TestGifGetOfPoints(t *testing.T) {
	m, g := smallGif()
	for bits := range 256 {
		other := g
		other.bits = bits
		if bits < 2 || bits > 8 {
			for lzw := 2; lzw <= 8; lzw++ {
				other.blocks = gifPoints(m.Pix, lzw)
				checkGifParts(t, fmt.Sprint("bits ", bits), other, false)
			}
			continue
		}
		other.blocks = gifPoints(m.Pix, bits)
		checkGifParts(t, fmt.Sprint("bits ", bits), other, true)
		if got, ok := impl.GifGet(other.text()); !ok || !samePicture(got, m) {
			t.Errorf("%d bits: %v %v", bits, got, ok)
		}
		for _, count := range []int{0, 1, 5, 7, 12, 400} {
			other.blocks = gifPoints(same(1, count), bits)
			checkGifParts(t, fmt.Sprint(count, " points"), other, false)
		}
		for at := range 6 {
			for _, point := range []int{3, 4, 5, 1<<bits - 1} {
				if point >= 1<<bits {
					continue
				}
				pix := same(0, 6)
				pix[at] = point
				other.blocks = gifPoints(pix, bits)
				checkGifParts(t, fmt.Sprint("a point ", point), other, point < 4)
			}
		}
	}
	// Of two colours, and of eight, which no depth has just so.
	for flags, most := range map[int]int{0: 2, 2: 8, 4: 32, 5: 64, 6: 128} {
		other := g
		other.flags, other.colors, other.bits = 128+flags, strings.Repeat("abc", most), 8
		for _, point := range []int{most - 1, most, 255} {
			other.blocks = gifPoints([]int{0, 0, 0, 0, 0, point}, 8)
			checkGifParts(t, fmt.Sprint("a point ", point), other, point < most)
		}
	}
}

func TestGifGetOfHowPointsArePacked(t *testing.T) {
	m, g := smallGif()
	way := lzwWay{2, false}
	look := func(what string, wantOk bool, packed string) {
		t.Helper()
		for _, sizes := range [][]int{{255}, {1}, {1, 2}, {3}} {
			other := g
			other.blocks = blocksOf(packed, sizes...)
			checkGifParts(t, what, other, wantOk)
			if got, ok := impl.GifGet(other.text()); wantOk && !samePicture(got, m) {
				t.Errorf("%s: %v %v", what, got, ok)
			}
		}
	}
	good := lzwNumbers(way, lzwPutByWords(asText(m.Pix), way)...)
	look("as it is written", true, good)
	look("something behind its end", true, good+"some text")
	look("each for itself", true, lzwNumbers(way, 4, 0, 1, 4, 2, 3, 4, 1, 0, 5))
	look("without clear", true, lzwNumbers(way, 0, 1, 4, 2, 3, 4, 1, 0, 5))
	look("clear again and again", true, lzwNumbers(way, 4, 4, 0, 1, 4, 4, 2, 3, 4, 1, 0, 4, 4, 5))
	look("without end", false, lzwNumbers(way, 4, 0, 1, 4, 2, 3, 4, 1, 0))
	look("none", false, "")
	look("end alone", false, lzwNumbers(way, 5))
	look("one less", false, lzwNumbers(way, 4, 0, 1, 4, 2, 3, 4, 1, 5))
	look("one more", false, lzwNumbers(way, 4, 0, 1, 4, 2, 3, 4, 1, 0, 4, 0, 5))
	look("a number that is not known", false, lzwNumbers(way, 4, 0, 7, 5))
	look("the highest first", false, impl.LzwPut(asText(m.Pix), 8, true))
	for _, blocks := range []string{"", "\x00", "\x01", "\x02\x44"} {
		other := g
		other.blocks = blocks
		checkGifParts(t, "no blocks", other, false)
	}
}

func TestGifGetOfLongTexts(t *testing.T) {
	_, g := smallGif()
	for _, more := range []int{0, 1, 2} {
		spare := impl.TextMax - len(g.text()) - 2 + more
		full := g
		// So many bytes in all, in blocks that leave nothing over.
		body := "!\xfe" + strings.Repeat("\x01x", spare%2) + strings.Repeat("\x01x", (spare-1)/2-spare%2)
		if spare%2 == 0 {
			body = "!\xfe\x02xx" + strings.Repeat("\x01x", (spare-4)/2)
		}
		full.ahead = body + "\x00"
		if len(full.text()) != impl.TextMax+more {
			t.Fatalf("%d bytes, not %d", len(full.text()), impl.TextMax+more)
		}
		checkGifParts(t, fmt.Sprint(more, " more"), full, more == 0)
		full.ahead, full.behind = "", full.ahead
		checkGifParts(t, fmt.Sprint(more, " more behind"), full, more == 0)
	}
	for _, text := range []string{"", "GIF89a", strings.Repeat("GIF89a", 1500), strings.Repeat("\x00", impl.TextMax), strings.Repeat("!", 70000)} {
		if checkGif(t, "no picture", text) {
			t.Errorf("%d bytes are read", len(text))
		}
	}
}

func TestGifGetOfEachBit(t *testing.T) {
	_, g := smallGif()
	text := g.text()
	for bit := range 8 * len(text) {
		checkGif(t, "a bit", turnBit(text, bit))
	}
	for at := range len(text) {
		for b := range 256 {
			checkGif(t, "a byte", text[:at]+lowBytes(b, 1)+text[at+1:])
		}
	}
}

func TestGifOfAnyText(t *testing.T) {
	r := dice(514)
	for range 3000 {
		text := someText(r, r.Intn(60))
		if r.Intn(2) == 0 {
			text = "GIF89a\x01\x00\x01\x00" + text
		}
		checkGif(t, "any text", text)
	}
}

func TestTheLibraryReadsWhatGifPutWrites(t *testing.T) {
	for i, m := range fullLists() {
		for _, woven := range []bool{false, true} {
			seen, err := gif.Decode(strings.NewReader(impl.GifPut(m, woven)))
			if err != nil {
				t.Fatalf("picture %d, woven %v: %v", i, woven, err)
			}
			list := seen.(*image.Paletted)
			for k, p := range m.Pix {
				c := color.NRGBAModel.Convert(seen.At(k%m.Wide, k/m.Wide)).(color.NRGBA)
				if int(list.Pix[k]) != p || int(c.R)<<16|int(c.G)<<8|int(c.B) != m.Colors[p] || c.A != 255 {
					t.Fatalf("picture %d, woven %v, point %d: %v", i, woven, k, c)
				}
			}
			if seen.Bounds() != image.Rect(0, 0, m.Wide, m.High) || len(list.Palette) != len(m.Colors) {
				t.Fatalf("picture %d: %v", i, seen.Bounds())
			}
		}
	}
}

func TestGifGetReadsWhatTheLibraryWrites(t *testing.T) {
	for i, m := range fullLists() {
		var out bytes.Buffer
		list := libraryPicture(m).(*image.Paletted)
		if err := gif.EncodeAll(&out, &gif.GIF{Image: []*image.Paletted{list}, Delay: []int{i % 2 * 5}}); err != nil {
			t.Fatal(err)
		}
		if got, ok := impl.GifGet(out.String()); !ok || !samePicture(got, m) {
			t.Fatalf("picture %d: %v %v, not %v", i, got, ok, m)
		}
	}
}

func TestGifAnswersAreNewMemory(t *testing.T) {
	for range 2 {
		rows := impl.WovenRows(9)
		if fmt.Sprint(rows) != "[0 8 4 2 6 1 3 5 7]" {
			t.Fatalf("%v", rows)
		}
		spoil(rows, 77)
	}
	_, g := smallGif()
	own := g
	own.own, own.list = 129, strings.Repeat("xyz", 4)
	woven := g
	woven.own = 64
	for _, g := range []gifParts{g, own, woven} {
		text := g.text()
		want, _ := impl.GifGet(text)
		want = copied(want)
		for range 2 {
			got, ok := impl.GifGet(text)
			if !ok || !samePicture(got, want) {
				t.Fatalf("%v %v", got, ok)
			}
			spoil(got.Colors, 77)
			if !slices.Equal(got.Pix, want.Pix) {
				t.Error("both lists share memory")
			}
			spoil(got.Pix, 78)
		}
	}
	text := strings.Repeat("some text", 20)
	blocks := impl.BlocksPut(text)
	got, _, _ := impl.BlocksGet(blocks, 0)
	if sharesText(blocks, text) || sharesText(got, blocks) || got != text {
		t.Error("memory of an argument")
	}
}
