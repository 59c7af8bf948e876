package tests

import (
	"fmt"
	"slices"
	"strings"
	"testing"

	"loop.example/intarsia/impl"
)

func TestPromise54APictureComesOutOfABmp(t *testing.T) {
	for i, m := range bytePictures() {
		for _, runs := range []bool{false, true} {
			laid, check := guardedPicture(m)
			text := impl.BmpPut(laid, runs)
			check(t, "BmpPut")
			if text != bmpByWords(m, runs) {
				t.Fatalf("picture %d, runs %v: %x, not %x", i, runs, text, bmpByWords(m, runs))
			}
			if text == "" {
				continue
			}
			if got, ok := impl.BmpGet(text); !ok || !samePicture(got, m) {
				t.Fatalf("picture %d, runs %v: %v %v, not %v", i, runs, got, ok, m)
			}
			if size, ok := impl.NumGet(text, 2, 4, false); size != len(text) || !ok {
				t.Errorf("picture %d, runs %v: %d, not %d", i, runs, size, len(text))
			}
		}
	}
}

// Each size: a row is filled up by none to three bytes.
func TestBmpOfEachSize(t *testing.T) {
	r := dice(541)
	for wide := 1; wide <= impl.SizeMax; wide++ {
		for high := 1; high <= impl.SizeMax; high++ {
			rgb := somePicture(r, impl.KindRgb, 24, wide, high, 0)
			list := runPicture(r, impl.KindPal, 8, wide, high, 1+r.Intn(256))
			for _, text := range []string{impl.BmpPut(rgb, false), impl.BmpPut(list, false), impl.BmpPut(list, true)} {
				got, ok := impl.BmpGet(text)
				if !ok || !samePicture(got, rgb) && !samePicture(got, list) {
					t.Fatalf("%d, %d: %v %v", wide, high, got, ok)
				}
			}
			if size := len(impl.BmpPut(rgb, false)) - 54; size != high*(wide*3+wide%4) {
				t.Errorf("%d, %d: %d bytes of data", wide, high, size)
			}
			if size := len(impl.BmpPut(list, false)) - 54 - 4*len(list.Colors); size != high*(wide+(20-wide)%4) {
				t.Errorf("%d, %d: %d bytes of data", wide, high, size)
			}
		}
	}
}

func TestBmpByHand(t *testing.T) {
	m := impl.Image{Kind: impl.KindRgb, Depth: 24, Wide: 1, High: 2, Pix: []int{66051, 5}}
	want := "BM\x3e\x00\x00\x00\x00\x00\x00\x00\x36\x00\x00\x00\x28\x00\x00\x00\x01\x00\x00\x00\x02\x00\x00\x00\x01\x00\x18\x00" +
		"\x00\x00\x00\x00\x08\x00\x00\x00\x00\x00\x00\x00\x00\x00\x00\x00\x00\x00\x00\x00\x00\x00\x00\x00" +
		"\x05\x00\x00\x00\x03\x02\x01\x00"
	if got := impl.BmpPut(m, false); got != want {
		t.Errorf("%x, not %x", got, want)
	}
	m = impl.Image{Kind: impl.KindPal, Depth: 8, Wide: 2, High: 2, Colors: []int{66051, 16777215, 7}, Pix: []int{0, 1, 2, 2}}
	head := func(size string, packing string, bytes string) string {
		return "BM" + size + "\x00\x00\x00\x00\x00\x42\x00\x00\x00\x28\x00\x00\x00\x02\x00\x00\x00\x02\x00\x00\x00\x01\x00\x08\x00" +
			packing + "\x00\x00\x00" + bytes + "\x00\x00\x00\x00\x00\x00\x00\x00\x00\x00\x00\x03\x00\x00\x00\x00\x00\x00\x00" +
			"\x03\x02\x01\x00\xff\xff\xff\x00\x07\x00\x00\x00"
	}
	want = head("\x4a\x00\x00", "\x00", "\x08") + "\x02\x02\x00\x00\x00\x01\x00\x00"
	if got := impl.BmpPut(m, false); got != want {
		t.Errorf("%x, not %x", got, want)
	}
	want = head("\x4c\x00\x00", "\x01", "\x0a") + "\x02\x02\x00\x00\x01\x00\x01\x01\x00\x01"
	if got := impl.BmpPut(m, true); got != want {
		t.Errorf("%x, not %x", got, want)
	}
}

func TestBmpPutOfWhatABmpCannotHold(t *testing.T) {
	for i, m := range slices.Concat(noPictures(), pictures()) {
		for _, runs := range []bool{false, true} {
			if got := impl.BmpPut(m, runs); (got != "") != bmpCan(m, runs) {
				t.Errorf("picture %d, runs %v: %x", i, runs, got)
			}
		}
	}
}

func TestPromise55WhatIsReadOfABmpABmpCanHold(t *testing.T) {
	r := dice(551)
	read := map[bool]int{}
	look := func(text string) {
		t.Helper()
		ok := checkBmp(t, "some", text)
		read[ok]++
		if !ok {
			return
		}
		m, _ := impl.BmpGet(text)
		if !bmpCan(m, false) || !impl.Rep(impl.FormBmp, m) {
			t.Fatalf("%x: a BMP cannot hold %v", text, m)
		}
		for _, runs := range []bool{false, true} {
			if again, ok := impl.BmpGet(impl.BmpPut(m, runs)); bmpCan(m, runs) && (!ok || !samePicture(again, m)) {
				t.Fatalf("%x: %v, again %v %v", text, m, again, ok)
			}
		}
		for _, more := range []string{"\x00", "x", string([]byte{byte(r.Intn(256))})} {
			if more, ok := impl.BmpGet(text + more); ok || !isNothing(more) {
				t.Fatalf("%x: a byte may stand behind", text)
			}
		}
	}
	for i, m := range bytePictures() {
		for _, runs := range []bool{false, true} {
			if !bmpCan(m, runs) || m.Wide*m.High > 60 && i%4 > 0 {
				continue
			}
			b := bmpOf(m, runs)
			look(b.text())
			for range 5 {
				look(hurt(r, b.text()))
				bad := b
				bad.data = hurt(r, b.data)
				look(bad.fits().text())
				if runs {
					bad.data = someRle(r, m.Wide, m.High)
					look(bad.fits().text())
				}
			}
		}
	}
	if read[true] < 200 || read[false] < 200 {
		t.Errorf("so many were read: %v", read)
	}
}

// smallBmps are pictures that a BMP can hold, with their parts.
func smallBmps() ([]impl.Image, []bmpParts) {
	rgb := impl.Image{Kind: impl.KindRgb, Depth: 24, Wide: 3, High: 2, Pix: []int{1, 256, 65536, 16777215, 0, 66051}}
	list := impl.Image{Kind: impl.KindPal, Depth: 8, Wide: 3, High: 2, Colors: []int{16711680, 65280, 255, 66051}, Pix: []int{0, 1, 2, 3, 3, 0}}
	return []impl.Image{rgb, list, list}, []bmpParts{bmpOf(rgb, false), bmpOf(list, false), bmpOf(list, true)}
}

// Each field with each number that it may be held for.
func TestBmpGetOfFields(t *testing.T) {
	_, all := smallBmps()
	for i, b := range all {
		checkBmpParts(t, "all is so", b, true)
		change := func(what string, place *int, size int, wantOk bool) {
			t.Helper()
			kept := *place
			for _, n := range []int{kept - 1, kept + 1, 0, 1, 2, 3, 4, 8, 12, 16, 20, 21, 24, 32, 40, 54, 64, 108, 124, 256, 257, kept + 256, kept + 65536, kept + 1<<24, 1 << 31, 1<<32 - 1, -kept} {
				*place = n
				// With runs there may be rows above those that are told of.
				taller := what == "high" && b.packing == 1 && n > kept && n <= 20
				if (n-kept)%(1<<size) != 0 {
					checkBmpParts(t, fmt.Sprintf("BMP %d: %s %d", i, what, n), b, wantOk || taller)
				}
			}
			*place = kept
		}
		change("size", &b.size, 32, false)
		change("six", &b.six, 32, true)
		change("begin", &b.begin, 32, false)
		change("info", &b.info, 32, false)
		change("high", &b.high, 32, false)
		change("planes", &b.planes, 16, false)
		change("depth", &b.depth, 16, false)
		change("packing", &b.packing, 32, false)
		change("bytes", &b.bytes, 32, false)
		change("across", &b.across, 32, true)
		change("up", &b.up, 32, true)
		change("count", &b.count, 32, false)
		change("matter", &b.matter, 32, true)
		for _, sign := range []string{"", "B", "M", "MB", "bm", "BA", "AM", "BMM", "P6"} {
			other := b
			other.sign = sign
			checkBmpParts(t, "sign "+sign, other, false)
		}
	}
}

func TestBmpGetOfEachByte(t *testing.T) {
	_, all := smallBmps()
	for i, b := range all {
		text := b.text()
		free := map[int]bool{}
		for _, at := range []int{6, 38, 42, 50} {
			for k := range 4 {
				free[at+k] = true
			}
		}
		for at := range 54 {
			for n := range 256 {
				ok := checkBmp(t, "a byte", text[:at]+lowBytes(n, 1)+text[at+1:])
				// How wide and high it is may be told otherwise, if there is enough, or there are runs.
				if free[at] && !ok || !free[at] && at != 18 && at != 22 && ok && byte(n) != text[at] {
					t.Errorf("BMP %d: byte %d is %d: %v", i, at, n, ok)
				}
			}
		}
		for at := 54; at < len(text); at++ {
			for n := range 256 {
				checkBmp(t, "a byte", text[:at]+lowBytes(n, 1)+text[at+1:])
			}
		}
		for size := range len(text) {
			if checkBmp(t, "cut off", text[:size]) {
				t.Errorf("BMP %d: %d bytes are enough", i, size)
			}
		}
	}
}

func TestBmpGetOfWhatMayBeAnything(t *testing.T) {
	r := dice(552)
	pictures, all := smallBmps()
	for i, b := range all {
		for range 40 {
			b.six, b.across, b.up, b.matter = r.Int(), r.Int(), r.Int(), r.Int()
			colors := []byte(b.colors)
			for k := 3; k < len(colors); k += 4 {
				colors[k] = byte(r.Intn(256))
			}
			b.colors = string(colors)
			if b.packing == 0 {
				b.data = bmpRows(rowsFromBelow(pictures[i]), b.depth, string([]byte{byte(r.Intn(256))}))
			}
			if got, ok := impl.BmpGet(b.text()); !ok || !samePicture(got, pictures[i]) {
				t.Errorf("BMP %d: %v %v, not %v", i, got, ok, pictures[i])
			}
		}
	}
}

func TestBmpGetOfSizes(t *testing.T) {
	for _, c := range [][2]int{{0, 0}, {0, 1}, {1, 0}, {1, 1}, {20, 20}, {20, 1}, {1, 20}, {21, 1}, {1, 21}, {21, 21}, {257, 1}, {1, 257}, {1 << 16, 1}, {1<<16 + 1, 1}, {1, 1<<24 + 1}, {1 << 31, 1}, {1, 1 << 31}, {1<<32 - 1, 1}, {1, 1<<32 - 1}, {1<<32 - 2, 1<<32 - 2}} {
		for _, depth := range []int{8, 24} {
			for _, runs := range []int{0, 1} {
				wide, high := c[0]%256, c[1]%256
				b := bmpParts{sign: "BM", info: 40, wide: c[0], high: c[1], planes: 1, depth: depth, packing: runs}
				if depth == 8 {
					b.count, b.colors = 1, "abc\x00"
				}
				b.data = strings.Repeat("\x00", (wide*depth/8+3)/4*4*high)
				if runs == 1 {
					b.data = "\x00\x01"
				}
				wantOk := c[0] >= 1 && c[0] <= 20 && c[1] >= 1 && c[1] <= 20 && (depth == 8 || runs == 0)
				checkBmpParts(t, fmt.Sprint(c, depth, runs), b.fits(), wantOk)
			}
		}
	}
}

func TestBmpGetOfColours(t *testing.T) {
	r := dice(553)
	for _, count := range []int{0, 1, 2, 3, 16, 255, 256, 257, 258, 300, 512} {
		for _, runs := range []int{0, 1} {
			b := bmpParts{sign: "BM", info: 40, wide: 1, high: 1, planes: 1, depth: 8, packing: runs, count: count, colors: someText(r, 4*count)}
			point := func(p int) bmpParts {
				b.data = lowBytes(p, 1) + "\x00\x00\x00"
				if runs == 1 {
					b.data = "\x01" + lowBytes(p, 1) + "\x00\x01"
				}
				return b.fits()
			}
			checkBmpParts(t, fmt.Sprint(count, " colours"), point(0), count >= 1 && count <= 256)
			for _, p := range []int{count - 1, count, 255} {
				if p >= 0 && p <= 255 {
					checkBmpParts(t, fmt.Sprint(count, " colours, a point ", p), point(p), count >= 1 && count <= 256 && p < count)
				}
			}
			// A count that is not what stands there.
			other := point(0)
			for _, n := range []int{count - 1, count + 1, 0, 256} {
				if n != count {
					other.count = n
					checkBmpParts(t, fmt.Sprint(count, " colours, told as ", n), other, false)
				}
			}
		}
	}
	for _, count := range []int{1, 2, 256} {
		b := bmpParts{sign: "BM", info: 40, wide: 1, high: 1, planes: 1, depth: 24, count: count, colors: strings.Repeat("abcd", count), data: "abc\x00"}
		checkBmpParts(t, "colours of red, green and blue", b.fits(), false)
		b.count = 0
		checkBmpParts(t, "colours that are not told", b.fits(), false)
	}
}

func TestBmpGetOfRows(t *testing.T) {
	_, all := smallBmps()
	for i, b := range all {
		if b.packing == 1 {
			continue
		}
		row := len(b.data) / 2
		for _, data := range []string{"", b.data[:row], b.data[1:], b.data[:len(b.data)-1], b.data + "\x00", b.data + b.data[:row], b.data + "\x00\x00\x00\x00"} {
			other := b
			other.data = data
			checkBmpParts(t, fmt.Sprintf("BMP %d: %x", i, data), other.fits(), false)
		}
	}
	// Rows that are not filled up.
	b := all[1]
	b.data = "\x03\x03\x00\x00\x01\x02"
	checkBmpParts(t, "not filled up", b.fits(), false)
}

func TestBmpGetOfRuns(t *testing.T) {
	pictures, all := smallBmps()
	b := all[2]
	for _, c := range []struct {
		what string
		data string
		pix  []int
	}{
		{"as it is written", b.data, pictures[2].Pix},
		{"nothing put", "\x00\x01", same(0, 6)},
		{"an end of each row", "\x02\x03\x01\x00\x00\x00\x01\x00\x01\x01\x01\x02\x00\x00\x00\x01", pictures[2].Pix},
		{"bytes as they are", "\x00\x03\x03\x03\x00\x00\x00\x00\x00\x03\x00\x01\x02\xff\x00\x01", pictures[2].Pix},
		{"a leap", "\x00\x02\x01\x01\x01\x02\x00\x01", []int{0, 2, 0, 0, 0, 0}},
		{"a leap of none", "\x00\x02\x00\x00\x01\x02\x00\x01", []int{0, 0, 0, 2, 0, 0}},
		{"many ends of rows", strings.Repeat("\x00\x00", 100) + "\x00\x01", same(0, 6)},
		{"no end", "\x03\x03\x00\x00\x03\x01", nil},
		{"something behind its end", b.data + "\x00", nil},
		{"its end twice", b.data + "\x00\x01", nil},
		{"a row too long", "\x04\x01\x00\x01", nil},
		{"a row too many", "\x00\x00\x00\x00\x01\x01\x00\x01", nil},
		{"no colour", "\x01\x04\x00\x01", nil},
		{"nothing", "", nil},
		{"cut off", "\x00", nil},
	} {
		other := b
		other.data = c.data
		checkBmpParts(t, c.what, other.fits(), c.pix != nil)
		if got, _ := impl.BmpGet(other.fits().text()); !slices.Equal(got.Pix, c.pix) {
			t.Errorf("%s: %v", c.what, got.Pix)
		}
		other.packing = 0
		if len(c.data) != 8 {
			checkBmpParts(t, c.what+", without runs", other.fits(), false)
		}
		other.packing, other.depth, other.colors, other.count = 1, 24, "", 0
		checkBmpParts(t, c.what+", of red, green and blue", other.fits(), false)
	}
	for _, packing := range []int{2, 3, 4, 255, 256, 257, 65537, 1 << 31} {
		other := b
		other.packing = packing
		checkBmpParts(t, "packing", other, false)
		other = all[1]
		other.packing = packing
		checkBmpParts(t, "packing", other, false)
	}
}

func TestBmpGetOfLongTexts(t *testing.T) {
	_, all := smallBmps()
	b := all[2]
	for _, more := range []int{0, 2, 4, 100} {
		b.data = ""
		spare := impl.TextMax + more - len(b.text()) - 2
		b.data = strings.Repeat("\x00\x00", spare/2) + "\x00\x01"
		if size := len(b.fits().text()); size != impl.TextMax+more {
			t.Fatalf("%d bytes", size)
		}
		checkBmpParts(t, "a long text", b.fits(), more == 0)
	}
	for _, text := range []string{"", "BM", strings.Repeat("BM", 4500), strings.Repeat("\x00", impl.TextMax), strings.Repeat("BM", 70000)} {
		if checkBmp(t, "no picture", text) {
			t.Errorf("%d bytes are read", len(text))
		}
	}
}

func TestPromise56APictureComesOutOfATga(t *testing.T) {
	for i, m := range slices.Concat(bytePictures(), pictures()) {
		for _, runs := range []bool{false, true} {
			laid, check := guardedPicture(m)
			text := impl.TgaPut(laid, runs)
			check(t, "TgaPut")
			if text != tgaByWords(m, runs) {
				t.Fatalf("picture %d, runs %v: %x, not %x", i, runs, text, tgaByWords(m, runs))
			}
			if text == "" {
				continue
			}
			if got, ok := impl.TgaGet(text); !ok || !samePicture(got, m) {
				t.Fatalf("picture %d, runs %v: %v %v, not %v", i, runs, got, ok, m)
			}
		}
	}
}

func TestTgaByHand(t *testing.T) {
	for _, c := range []struct {
		m    impl.Image
		runs bool
		want string
	}{
		{impl.Image{Kind: impl.KindGray, Depth: 8, Wide: 1, High: 2, Pix: []int{1, 2}}, false,
			"\x00\x00\x03\x00\x00\x00\x00\x00\x00\x00\x00\x00\x01\x00\x02\x00\x08\x20\x01\x02"},
		{impl.Image{Kind: impl.KindGray, Depth: 8, Wide: 2, High: 2, Pix: []int{1, 2, 2, 2}}, true,
			"\x00\x00\x0b\x00\x00\x00\x00\x00\x00\x00\x00\x00\x02\x00\x02\x00\x08\x20\x00\x01\x82\x02"},
		{impl.Image{Kind: impl.KindRgb, Depth: 24, Wide: 2, High: 1, Pix: []int{66051, 7}}, false,
			"\x00\x00\x02\x00\x00\x00\x00\x00\x00\x00\x00\x00\x02\x00\x01\x00\x18\x20\x03\x02\x01\x07\x00\x00"},
		// Red 1, green 2, blue 3, dense 4.
		{impl.Image{Kind: impl.KindRgba, Depth: 32, Wide: 1, High: 1, Pix: []int{0x01020304}}, false,
			"\x00\x00\x02\x00\x00\x00\x00\x00\x00\x00\x00\x00\x01\x00\x01\x00\x20\x28\x03\x02\x01\x04"},
		{impl.Image{Kind: impl.KindRgba, Depth: 32, Wide: 1, High: 2, Pix: []int{0xff020304, 0xff020304}}, true,
			"\x00\x00\x0a\x00\x00\x00\x00\x00\x00\x00\x00\x00\x01\x00\x02\x00\x20\x28\x81\x03\x02\xff\x04"},
		{impl.Image{Kind: impl.KindPal, Depth: 8, Wide: 2, High: 1, Colors: []int{66051, 255}, Pix: []int{1, 0}}, false,
			"\x00\x01\x01\x00\x00\x02\x00\x18\x00\x00\x00\x00\x02\x00\x01\x00\x08\x20\x03\x02\x01\xff\x00\x00\x01\x00"},
		{impl.Image{Kind: impl.KindPal, Depth: 8, Wide: 2, High: 1, Colors: []int{66051}, Pix: []int{0, 0}}, true,
			"\x00\x01\x09\x00\x00\x01\x00\x18\x00\x00\x00\x00\x02\x00\x01\x00\x08\x20\x03\x02\x01\x81\x00"},
	} {
		if got := impl.TgaPut(c.m, c.runs); got != c.want {
			t.Errorf("%v: %x, not %x", c.m, got, c.want)
		}
		if got, ok := impl.TgaGet(c.want); !ok || !samePicture(got, c.m) {
			t.Errorf("%x: %v %v", c.want, got, ok)
		}
	}
}

func TestTgaPutOfWhatATgaCannotHold(t *testing.T) {
	for i, m := range slices.Concat(noPictures(), pictures()) {
		for _, runs := range []bool{false, true} {
			if got := impl.TgaPut(m, runs); (got != "") != tgaCan(m) {
				t.Errorf("picture %d, runs %v: %x", i, runs, got)
			}
		}
	}
}

func TestPromise57ATgaThatStandsOnItsHeadIsTurned(t *testing.T) {
	for i, m := range bytePictures() {
		for _, runs := range []bool{false, true} {
			text := impl.TgaPut(m, runs)
			if text == "" {
				continue
			}
			last := text[17]
			if last != 32 && (last != 40 || m.Kind != impl.KindRgba) {
				t.Fatalf("picture %d: %d", i, last)
			}
			headDown := text[:17] + lowBytes(int(last)-32, 1) + text[18:]
			checkTga(t, "on its head", headDown)
			if got, ok := impl.TgaGet(headDown); !ok || !samePicture(got, impl.ImageFlip(m)) {
				t.Fatalf("picture %d, runs %v: %v %v, not %v upside down", i, runs, got, ok, m)
			}
		}
	}
}

func TestPromise58WhatIsReadOfATgaATgaCanHold(t *testing.T) {
	r := dice(581)
	read := map[bool]int{}
	look := func(text string) {
		t.Helper()
		ok := checkTga(t, "some", text)
		read[ok]++
		if !ok {
			return
		}
		m, _ := impl.TgaGet(text)
		if !tgaCan(m) || !impl.Rep(impl.FormTga, m) {
			t.Fatalf("%x: a TGA cannot hold %v", text, m)
		}
		for _, runs := range []bool{false, true} {
			if again, ok := impl.TgaGet(impl.TgaPut(m, runs)); !ok || !samePicture(again, m) {
				t.Fatalf("%x: %v, again %v %v", text, m, again, ok)
			}
		}
		for _, more := range []string{"\x00", "x", string([]byte{byte(r.Intn(256))})} {
			if more, ok := impl.TgaGet(text + more); ok || !isNothing(more) {
				t.Fatalf("%x: a byte may stand behind", text)
			}
		}
	}
	for _, m := range bytePictures() {
		if !tgaCan(m) {
			continue
		}
		for _, runs := range []bool{false, true} {
			p := tgaOf(m, runs)
			p.size = r.Intn(256)
			p.ahead = someText(r, p.size)
			p.last -= 32 * r.Intn(2)
			if runs {
				p.data = somePackets(r, tgaNumbers(m), m.Depth/8)
			}
			look(p.text())
			for range 4 {
				look(hurt(r, p.text()))
				bad := p
				bad.data = hurt(r, p.data)
				look(bad.text())
				head := p.text()
				look(hurt(r, head[:18]) + head[18:])
			}
		}
	}
	if read[true] < 300 || read[false] < 300 {
		t.Errorf("so many were read: %v", read)
	}
}

// smallTgas are pictures that a TGA can hold.
func smallTgas() []impl.Image {
	return []impl.Image{
		{Kind: impl.KindPal, Depth: 8, Wide: 3, High: 2, Colors: []int{16711680, 65280, 255, 66051}, Pix: []int{0, 1, 2, 2, 2, 0}},
		{Kind: impl.KindRgb, Depth: 24, Wide: 3, High: 2, Pix: []int{1, 256, 65536, 65536, 0, 66051}},
		{Kind: impl.KindRgba, Depth: 32, Wide: 3, High: 2, Pix: []int{1, 256, 65536, 65536, 65536, 1<<32 - 1}},
		{Kind: impl.KindGray, Depth: 8, Wide: 3, High: 2, Pix: []int{1, 255, 7, 7, 7, 0}},
	}
}

func TestTgaGetOfEachByte(t *testing.T) {
	for i, m := range smallTgas() {
		for _, runs := range []bool{false, true} {
			text := impl.TgaPut(m, runs)
			for at := range len(text) {
				for n := range 256 {
					ok := checkTga(t, "a byte", text[:at]+lowBytes(n, 1)+text[at+1:])
					// Only how wide and high it is may be told otherwise, and 32 left out; and runs may be as long as none.
					if at < 18 && at != 12 && at != 14 && at != 17 && ok && byte(n)|8 != text[at]|8 {
						t.Errorf("TGA %d: byte %d is %d", i, at, n)
					}
					if at == 17 && ok != (byte(n) == text[17] || byte(n)+32 == text[17]) {
						t.Errorf("TGA %d: the last byte of the head is %d: %v", i, n, ok)
					}
				}
			}
			for size := range len(text) {
				if checkTga(t, "cut off", text[:size]) {
					t.Errorf("TGA %d: %d bytes are enough", i, size)
				}
			}
		}
	}
}

// Each number with each depth, and with a list of colours or without.
func TestTgaGetOfNumbers(t *testing.T) {
	for sort := range 256 {
		for depth := range 41 {
			for _, last := range []int{0, 8, 32, 40} {
				for _, listed := range []int{0, 1} {
					p := tgaParts{listed: listed, sort: sort, count: listed, bits: 24 * listed, wide: 1, high: 1, depth: depth, last: last}
					p.colors = strings.Repeat("abc", listed)
					p.data = strings.Repeat("\x00", depth/8)
					if sort > 8 {
						p.data = "\x80" + p.data
					}
					bare := sort
					if sort > 8 {
						bare -= 8
					}
					kind := 0
					switch {
					case bare == 1 && depth == 8 && listed == 1:
						kind = impl.KindPal
					case bare == 2 && depth == 24 && listed == 0:
						kind = impl.KindRgb
					case bare == 2 && depth == 32 && listed == 0:
						kind = impl.KindRgba
					case bare == 3 && depth == 8 && listed == 0:
						kind = impl.KindGray
					}
					wantOk := kind != 0 && (last&8 == 8) == (kind == impl.KindRgba)
					if wantOk || sort < 20 || depth%8 == 0 && sort%8 < 4 {
						checkTgaParts(t, fmt.Sprint("number ", sort, ", depth ", depth, ", last ", last, ", listed ", listed), p, wantOk)
					}
				}
			}
		}
	}
}

func TestTgaGetOfColours(t *testing.T) {
	r := dice(582)
	for _, count := range []int{0, 1, 2, 3, 255, 256, 257, 258, 300, 512} {
		p := tgaParts{listed: 1, sort: 1, count: count, bits: 24, wide: 1, high: 1, depth: 8, last: 32, colors: someText(r, 3*count), data: "\x00"}
		wantOk := count >= 1 && count <= 256
		checkTgaParts(t, fmt.Sprint(count, " colours"), p, wantOk)
		for _, point := range []int{count - 1, count, 255} {
			if point >= 0 && point <= 255 {
				p.data = lowBytes(point, 1)
				checkTgaParts(t, fmt.Sprint(count, " colours, a point ", point), p, wantOk && point < count)
			}
		}
		p.data = "\x00"
		for _, bits := range []int{0, 8, 15, 16, 23, 25, 32, 255} {
			other := p
			other.bits = bits
			checkTgaParts(t, fmt.Sprint("colours of ", bits, " bits"), other, false)
		}
		for _, n := range []int{count - 1, count + 1, 0} {
			other := p
			if n >= 0 && n != count {
				other.count = n
				checkTgaParts(t, fmt.Sprint(count, " colours, told as ", n), other, false)
			}
		}
		p.listed = 0
		checkTgaParts(t, "colours that are none", p, false)
	}
	for _, m := range smallTgas()[1:] {
		p := tgaOf(m, false)
		for _, change := range []func(p *tgaParts){
			func(p *tgaParts) { p.listed = 1 },
			func(p *tgaParts) { p.bits = 24 },
			func(p *tgaParts) { p.count, p.colors = 1, "abc" },
			func(p *tgaParts) { p.listed, p.count, p.bits, p.colors = 1, 1, 24, "abc" },
			func(p *tgaParts) { p.listed, p.bits = 1, 24 },
			func(p *tgaParts) { p.first = 1 },
			func(p *tgaParts) { p.first = 256 },
			func(p *tgaParts) { p.corner = 1 },
			func(p *tgaParts) { p.corner = 1 << 8 },
			func(p *tgaParts) { p.corner = 1 << 16 },
			func(p *tgaParts) { p.corner = 1 << 31 },
		} {
			other := p
			change(&other)
			checkTgaParts(t, "a head that is not so", other, false)
		}
	}
}

func TestTgaGetOfWhatStandsAhead(t *testing.T) {
	r := dice(583)
	for _, m := range smallTgas() {
		for _, runs := range []bool{false, true} {
			p := tgaOf(m, runs)
			for size := range 256 {
				p.size, p.ahead = size, someText(r, size)
				if got, ok := impl.TgaGet(p.text()); !ok || !samePicture(got, m) {
					t.Fatalf("%d bytes: %v %v", size, got, ok)
				}
			}
			for _, size := range []int{1, 254, 255} {
				p.size, p.ahead = size, strings.Repeat("\x00", size-1)
				if checkTga(t, "too few bytes ahead", p.text()) && m.Kind != impl.KindPal {
					t.Errorf("%d bytes less one", size)
				}
				p.ahead = strings.Repeat("\x00", size+1)
				checkTga(t, "too many bytes ahead", p.text())
			}
		}
	}
}

func TestTgaGetOfSizes(t *testing.T) {
	for _, c := range [][2]int{{0, 0}, {0, 1}, {1, 0}, {1, 1}, {20, 20}, {20, 1}, {1, 20}, {21, 1}, {1, 21}, {21, 21}, {256, 1}, {257, 1}, {1, 257}, {65535, 65535}, {65535, 1}} {
		for _, last := range []int{0, 32} {
			p := tgaParts{sort: 3, wide: c[0], high: c[1], depth: 8, last: last}
			for _, count := range []int{c[0] * c[1], c[0] % 256 * (c[1] % 256), 0} {
				if count > impl.TextMax {
					continue
				}
				p.data = strings.Repeat("x", count)
				wantOk := c[0] >= 1 && c[0] <= 20 && c[1] >= 1 && c[1] <= 20 && count == c[0]*c[1]
				checkTgaParts(t, fmt.Sprint(c, count), p, wantOk)
			}
		}
	}
}

func TestTgaGetOfRuns(t *testing.T) {
	r := dice(584)
	for _, m := range bytePictures() {
		if !tgaCan(m) {
			continue
		}
		p := tgaOf(m, true)
		for range 6 {
			p.data = somePackets(r, tgaNumbers(m), m.Depth/8)
			if got, ok := impl.TgaGet(p.text()); !ok || !samePicture(got, m) {
				t.Fatalf("%x: %v %v, not %v", p.text(), got, ok, m)
			}
		}
		good := p.data
		p.data = good + "\x80" + strings.Repeat("\x00", m.Depth/8)
		checkTgaParts(t, "a packet more", p, false)
		p.data = good[:len(good)-1]
		checkTgaParts(t, "a byte less", p, false)
		p.data = good + "\x00"
		checkTgaParts(t, "a byte more", p, false)
	}
	p := tgaOf(smallTgas()[3], true)
	for _, c := range []struct {
		data string
		want string
	}{
		{"\x85\x07", "[7 7 7 7 7 7]"},
		{"\x05\x01\x02\x03\x04\x05\x06", "[1 2 3 4 5 6]"},
		{"\x01\x01\x02\x83\x07", "[1 2 7 7 7 7]"},
		{"\x80\x01\x80\x01\x00\x02\x00\x02\x81\x00", "[1 1 2 2 0 0]"},
		{"\x86\x07", "[]"},
		{"\x84\x07", "[]"},
		{"\x84\x07\x81\x07", "[]"},
		{"\x06\x01\x02\x03\x04\x05\x06\x07", "[]"},
		{"\x05\x01\x02\x03\x04\x05", "[]"},
		{"\x85", "[]"},
		{"", "[]"},
	} {
		p.data = c.data
		checkTgaParts(t, fmt.Sprintf("%x", c.data), p, c.want != "[]")
		if got, _ := impl.TgaGet(p.text()); fmt.Sprint(got.Pix) != c.want {
			t.Errorf("%x: %v", c.data, got.Pix)
		}
	}
}

func TestTgaGetOfMoreAndFewerBytes(t *testing.T) {
	for _, m := range smallTgas() {
		p := tgaOf(m, false)
		good := p.data
		for _, data := range []string{"", good[:len(good)-1], good[1:], good + "\x00", good + good, good[:len(good)/2]} {
			p.data = data
			checkTgaParts(t, fmt.Sprintf("%x", data), p, false)
		}
	}
	for _, text := range []string{"", "\x00", strings.Repeat("\x00", 18), strings.Repeat("\x00", impl.TextMax), strings.Repeat("\x01", 70000)} {
		if checkTga(t, "no picture", text) {
			t.Errorf("%d bytes are read", len(text))
		}
	}
}

func TestBmpAndTgaAnswersAreNewMemory(t *testing.T) {
	look := func(what string, text string, get func(string) (impl.Image, bool)) {
		t.Helper()
		want, _ := get(text)
		want = copied(want)
		for range 2 {
			got, ok := get(text)
			if !ok || !samePicture(got, want) {
				t.Fatalf("%s: %v %v", what, got, ok)
			}
			spoil(got.Colors, 77)
			if !slices.Equal(got.Pix, want.Pix) {
				t.Errorf("%s: both lists share memory", what)
			}
			spoil(got.Pix, 78)
		}
	}
	_, all := smallBmps()
	for i, b := range all {
		look(fmt.Sprint("BMP ", i), b.text(), impl.BmpGet)
	}
	for i, m := range smallTgas() {
		for _, runs := range []bool{false, true} {
			p := tgaOf(m, runs)
			look(fmt.Sprint("TGA ", i), p.text(), impl.TgaGet)
			p.last -= 32
			look(fmt.Sprint("TGA ", i, " on its head"), p.text(), impl.TgaGet)
		}
	}
}
