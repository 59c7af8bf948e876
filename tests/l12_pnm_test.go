package tests

import (
	"fmt"
	"slices"
	"strconv"
	"strings"
	"testing"

	"loop.example/intarsia/impl"
)

// pnmPictures are pictures that a PNM can hold.
func pnmPictures() []impl.Image {
	var all []impl.Image
	for _, m := range pictures() {
		if pnmCan(m) {
			all = append(all, m)
		}
	}
	return all
}

func TestPromise59APictureComesOutOfAPnm(t *testing.T) {
	for i, m := range pnmPictures() {
		for _, plain := range []bool{false, true} {
			laid, check := guardedPicture(m)
			text := impl.PnmPut(laid, plain)
			check(t, "PnmPut")
			if text != pnmByWords(m, plain) || text == "" {
				t.Fatalf("picture %d, plain %v: %q, not %q", i, plain, text, pnmByWords(m, plain))
			}
			if got, ok := impl.PnmGet(text); !ok || !samePicture(got, m) {
				t.Fatalf("picture %d, plain %v: %v %v, not %v", i, plain, got, ok, m)
			}
		}
	}
}

func TestPnmOfEachSize(t *testing.T) {
	r := dice(591)
	for wide := 1; wide <= impl.SizeMax; wide++ {
		for high := 1; high <= impl.SizeMax; high++ {
			kd := [][2]int{{1, 1}, {1, 2}, {1, 4}, {1, 8}, {2, 24}}[(wide+high)%5]
			for _, m := range []impl.Image{somePicture(r, kd[0], kd[1], wide, high, 0), somePicture(r, 1, 1, wide, high, 0)} {
				for _, plain := range []bool{false, true} {
					if got, ok := impl.PnmGet(impl.PnmPut(m, plain)); !ok || !samePicture(got, m) {
						t.Fatalf("%d, %d: %v %v, not %v", wide, high, got, ok, m)
					}
				}
			}
		}
	}
}

func TestPnmByHand(t *testing.T) {
	nine := impl.Image{Kind: impl.KindGray, Depth: 1, Wide: 9, High: 2, Pix: []int{1, 0, 1, 1, 1, 1, 1, 1, 0, 0, 0, 0, 0, 0, 0, 0, 0, 1}}
	two := impl.Image{Kind: impl.KindGray, Depth: 2, Wide: 2, High: 2, Pix: []int{0, 1, 2, 3}}
	four := impl.Image{Kind: impl.KindGray, Depth: 4, Wide: 2, High: 1, Pix: []int{0, 15}}
	eight := impl.Image{Kind: impl.KindGray, Depth: 8, Wide: 2, High: 1, Pix: []int{10, 255}}
	rgb := impl.Image{Kind: impl.KindRgb, Depth: 24, Wide: 1, High: 2, Pix: []int{66051, 16711680}}
	for _, c := range []struct {
		m     impl.Image
		plain bool
		want  string
	}{
		{nine, true, "P1\n9 2\n 0 1 0 0 0 0 0 0 1\n 1 1 1 1 1 1 1 1 0\n"},
		{nine, false, "P4\n9 2\n\x40\x80\xff\x00"},
		{two, true, "P2\n2 2\n3\n 0 1\n 2 3\n"},
		{two, false, "P5\n2 2\n3\n\x00\x01\x02\x03"},
		{four, true, "P2\n2 1\n15\n 0 15\n"},
		{four, false, "P5\n2 1\n15\n\x00\x0f"},
		{eight, true, "P2\n2 1\n255\n 10 255\n"},
		{eight, false, "P5\n2 1\n255\n\x0a\xff"},
		{rgb, true, "P3\n1 2\n255\n 1 2 3\n 255 0 0\n"},
		{rgb, false, "P6\n1 2\n255\n\x01\x02\x03\xff\x00\x00"},
	} {
		if got := impl.PnmPut(c.m, c.plain); got != c.want {
			t.Errorf("%v: %q, not %q", c.m, got, c.want)
		}
		if got, ok := impl.PnmGet(c.want); !ok || !samePicture(got, c.m) {
			t.Errorf("%q: %v %v", c.want, got, ok)
		}
	}
}

func TestPnmPutOfWhatAPnmCannotHold(t *testing.T) {
	for i, m := range slices.Concat(noPictures(), pictures()) {
		for _, plain := range []bool{false, true} {
			if got := impl.PnmPut(m, plain); (got != "") != pnmCan(m) {
				t.Errorf("picture %d, plain %v: %q", i, plain, got)
			}
		}
	}
}

func TestPromise60WhatIsReadOfAPnmAPnmCanHold(t *testing.T) {
	r := dice(601)
	read := map[bool]int{}
	look := func(text string) {
		t.Helper()
		ok := checkPnm(t, "some", text)
		read[ok]++
		m, _ := impl.PnmGet(text)
		if ok && (!pnmCan(m) || !impl.Rep(impl.FormPnm, m)) {
			t.Fatalf("%q: a PNM cannot hold %v", text, m)
		}
		if len(text) < 2 {
			return
		}
		// What is said beside it does not matter.
		for _, blanks := range []string{"\n", " \n", "\n\n", "\t \r\n", "# a remark\n", "#\n", " # P6 1 1 255\n  \n"} {
			more := text[:2] + blanks + text[2:]
			if got, fine := impl.PnmGet(more); ok && len(more) <= impl.TextMax && (!fine || !samePicture(got, m)) {
				t.Fatalf("%q behind its number: %v %v, not %v %v", blanks, got, fine, m, ok)
			}
		}
	}
	for i, m := range pnmPictures() {
		if m.Wide*m.High > 60 && i%4 > 0 {
			continue
		}
		for _, plain := range []bool{false, true} {
			look(impl.PnmPut(m, plain))
			for range 4 {
				text := somePnm(r, m, plain)
				look(text)
				if got, ok := impl.PnmGet(text); len(text) <= impl.TextMax && (!ok || !samePicture(got, m)) {
					t.Fatalf("%q: %v %v, not %v", text, got, ok, m)
				}
				look(hurt(r, text))
				look(hurtFigures(r, text))
				look(hurtFigures(r, hurtFigures(r, impl.PnmPut(m, plain))))
			}
		}
	}
	if read[true] < 500 || read[false] < 500 {
		t.Errorf("so many were read: %v", read)
	}
}

func TestPnmGetByHand(t *testing.T) {
	long := strings.Repeat("0", 3000)
	much := strings.Repeat("9", 3000)
	for _, c := range []struct {
		text string
		want string
	}{
		// Figures of black and white need no blanks between them.
		{"P1 2 2 0110", "1 1 2 2:: 1 0 0 1"},
		{"P1 2 2 0 1 1 0", "1 1 2 2:: 1 0 0 1"},
		{"P1 2 2 01 10\n", "1 1 2 2:: 1 0 0 1"},
		{"P1 2 2 0#0\n1#1\n10", "1 1 2 2:: 1 0 0 1"},
		{"P1 2 2 011", ""},
		{"P1 2 2 01101", ""},
		{"P1 2 2 0110 1", ""},
		{"P1 2 2 0120", ""},
		{"P1 2 2 01 0x", ""},
		{"P1 1 1 00", ""},
		{"P1 1 1 2", ""},
		{"P1 1 11", ""},
		{"P1 1 1", ""},
		{"P1 1", ""},
		{"P1", ""},
		{"P1 ", ""},
		{"P", ""},
		{"", ""},
		// The number, and what stands behind it.
		{"P2 1 1 3 2", "1 2 1 1:: 2"},
		{"P2\t1\v1\f3\r2\n", "1 2 1 1:: 2"},
		{"P2#x\n1 1 3 2", "1 2 1 1:: 2"},
		{"P2#\n#\n\n#\n1 1 3 2#", "1 2 1 1:: 2"},
		{"P21 1 3 2", ""},
		{"P2x 1 1 3 2", ""},
		{"P2", ""},
		{"P22 1 1 3 2", ""},
		{"P0 1 1 3 2", ""},
		{"P7 1 1 3 2", ""},
		{"P8 1 1 3 2", ""},
		{"P/ 1 1 3 2", ""},
		{"P 2 1 1 3 2", ""},
		{" P2 1 1 3 2", ""},
		{"#x\nP2 1 1 3 2", ""},
		{"p2 1 1 3 2", ""},
		{"2 1 1 3 2", ""},
		{"P-2 1 1 3 2", ""},
		{"P2\x001 1 3 2", ""},
		{"P2\x081 1 3 2", ""},
		{"P2\x0e1 1 3 2", ""},
		{"P2\x1f1 1 3 2", ""},
		{"P2\x851 1 3 2", ""},
		{"P2\xa01 1 3 2", ""},
		// Remarks.
		{"P2 1#1\n1#9 9\n3#3\n2#2", "1 2 1 1:: 2"},
		{"P2 1 1 3 2 # two", "1 2 1 1:: 2"},
		{"P2 1 1 3 2 # two\n# three\n", "1 2 1 1:: 2"},
		{"P2 1 1 3 # 2", ""},
		{"P2 1 1 3 # 2\r2", ""},
		{"P2 1 1 3 # \x00\xff\n2", "1 2 1 1:: 2"},
		{"P2 1 1 3 2 # two\n3", ""},
		{"P2 1#1 3 2", ""},
		// Sizes.
		{"P2 01 0001 003 02", "1 2 1 1:: 2"},
		{"P2 " + long + "1 " + long[:2500] + "1 " + long[:1000] + "3 " + long[:1000] + "2", "1 2 1 1:: 2"},
		{"P2 0 1 3", ""},
		{"P2 1 0 3", ""},
		{"P2 00 1 3 2", ""},
		{"P2 20 1 3" + strings.Repeat(" 1", 20), "1 2 20 1::" + strings.Repeat(" 1", 20)},
		{"P2 1 20 3" + strings.Repeat(" 1", 20), "1 2 1 20::" + strings.Repeat(" 1", 20)},
		{"P2 21 1 3" + strings.Repeat(" 1", 21), ""},
		{"P2 1 21 3" + strings.Repeat(" 1", 21), ""},
		{"P2 -1 1 3 2", ""},
		{"P2 +1 1 3 2", ""},
		{"P2 1.0 1 3 2", ""},
		{"P2 1,1 3 2", ""},
		{"P2 x 1 3 2", ""},
		{"P2 " + much + " 1 3 2", ""},
		{"P2 1 " + much + " 3 2", ""},
		{"P2 1 1 " + much + " 2", ""},
		{"P2 1 1 255 " + much, ""},
		{"P2 18446744073709551617 1 3 2", ""},
		{"P2 1 4294967297 3 2", ""},
		{"P2 1 1 18446744073709551619 2", ""},
		{"P2 1 1 3 18446744073709551618", ""},
		{"P1 1 18446744073709551617 1", ""},
		// The greatest.
		{"P2 1 1 15 15", "1 4 1 1:: 15"},
		{"P2 1 1 255 255", "1 8 1 1:: 255"},
		{"P2 1 1 15 16", ""},
		{"P2 1 1 3 4", ""},
		{"P2 1 1 255 256", ""},
		{"P2 1 1 1 1", ""},
		{"P2 1 1 0 0", ""},
		{"P2 1 1 2 1", ""},
		{"P2 1 1 7 1", ""},
		{"P2 1 1 14 1", ""},
		{"P2 1 1 16 1", ""},
		{"P2 1 1 63 1", ""},
		{"P2 1 1 127 1", ""},
		{"P2 1 1 254 1", ""},
		{"P2 1 1 256 1", ""},
		{"P2 1 1 65535 1", ""},
		{"P5 1 1 1 \x01", ""},
		{"P5 1 1 256 \x01", ""},
		{"P5 1 1 65535 \x01\x01", ""},
		{"P3 1 1 255 1 2 3", "2 24 1 1:: 66051"},
		{"P3 1 1 0255 01 2 00003", "2 24 1 1:: 66051"},
		{"P3 1 1 3 1 2 3", ""},
		{"P3 1 1 15 1 2 3", ""},
		{"P3 1 1 254 1 2 3", ""},
		{"P3 1 1 256 1 2 3", ""},
		{"P6 1 1 3 \x01\x02\x03", ""},
		{"P6 1 1 15 \x01\x02\x03", ""},
		// Numbers of points.
		{"P3 1 1 255 1 2", ""},
		{"P3 1 1 255 1 2 3 4", ""},
		{"P3 1 1 255 1 2 256", ""},
		{"P3 1 1 255 256 2 3", ""},
		{"P3 1 1 255 1 -2 3", ""},
		{"P3 1 1 255 255 255 255 ", "2 24 1 1:: 16777215"},
		{"P2 1 1 255 1 1", ""},
		{"P2 1 1 255", ""},
		{"P2 1 1 2551", ""},
		{"P2 1 1 255 1x", ""},
		{"P2 1 1 255 1;", ""},
		{"P2 1 1 255 1\x00", ""},
		// In bytes.
		{"P5 1 1 255\nx", "1 8 1 1:: 120"},
		{"P5 1 1 255 x", "1 8 1 1:: 120"},
		{"P5 1 1 255\tx", "1 8 1 1:: 120"},
		{"P5 1 1 255\rx", "1 8 1 1:: 120"},
		{"P5 1 1 255\n\n", "1 8 1 1:: 10"},
		{"P5 1 1 255\n#", "1 8 1 1:: 35"},
		{"P5 1 1 255 5", "1 8 1 1:: 53"},
		{"P5 1 1 255#\nx", ""},
		{"P5 1 1 255 #\nx", ""},
		{"P5 1 1 255\n\nx", ""},
		{"P5 1 1 255\r\nx", ""},
		{"P5 1 1 255x", ""},
		{"P5 1 1 255\x00x", ""},
		{"P5 1 1 255", ""},
		{"P5 1 1 255\n", ""},
		{"P5 1 1 255 xy", ""},
		{"P5 1 1 255 x\n", ""},
		{"P5 1 1 3 x", ""},
		{"P5 1 1 3 \x03", "1 2 1 1:: 3"},
		{"P5 1 1 3 \x04", ""},
		{"P5 1 1 15 \x0f", "1 4 1 1:: 15"},
		{"P5 1 1 15 \x10", ""},
		{"P5#1\n1#1\n#2\n1#3\n0255\n\xff", "1 8 1 1:: 255"},
		{"P6 1 1 255 abc", "2 24 1 1:: 6382179"},
		{"P6 1 1 255 ab", ""},
		{"P6 1 1 255 abcd", ""},
		{"P4 9 1\n\x40\x80", "1 1 9 1:: 1 0 1 1 1 1 1 1 0"},
		{"P4 9 1\n\x40\xff", "1 1 9 1:: 1 0 1 1 1 1 1 1 0"},
		{"P4 9 1\n\x40", ""},
		{"P4 9 1\n\x40\x80\x00", ""},
		{"P4 9 1#\n\x40\x80", ""},
		{"P4 9 1", ""},
		{"P4 1 2\n\x80\x7f", "1 1 1 2:: 0 1"},
		{"P4 8 1\n ", "1 1 8 1:: 1 1 0 1 1 1 1 1"},
	} {
		wantOk := c.want != ""
		if ok := checkPnm(t, "by hand", c.text); ok != wantOk {
			t.Errorf("%q: %v", c.text, ok)
		}
		if m, _ := impl.PnmGet(c.text); impl.ImageWrite(m) != c.want {
			t.Errorf("%q: %q, not %q", c.text, impl.ImageWrite(m), c.want)
		}
	}
}

func TestPnmGetOfEachByte(t *testing.T) {
	for _, text := range []string{"P1\n2 1\n 0 1\n", "P2\n2 1\n15\n 0 15\n", "P3\n1 1\n255\n 1 2 3\n", "P4\n9 1\n\x40\x80", "P5\n2 1\n3\n\x00\x03", "P6\n1 1\n255\nabc"} {
		if !checkPnm(t, "as it is written", text) {
			t.Errorf("%q is not read", text)
		}
		for at := range len(text) {
			for b := range 256 {
				checkPnm(t, "a byte", text[:at]+lowBytes(b, 1)+text[at+1:])
				checkPnm(t, "one more", text[:at]+lowBytes(b, 1)+text[at:])
			}
			checkPnm(t, "cut off", text[:at])
			checkPnm(t, "one left out", text[:at]+text[at+1:])
		}
		for b := range 256 {
			checkPnm(t, "behind", text+lowBytes(b, 1))
		}
	}
}

func TestPnmGetOfEachNumber(t *testing.T) {
	for most := range 300 {
		for _, sort := range []int{2, 3, 5, 6} {
			points := map[int]string{2: " 1", 3: " 1 1 1", 5: " \x01", 6: " \x01\x01\x01"}[sort]
			wantOk := most == 255 || sort%3 == 2 && (most == 3 || most == 15)
			if ok := checkPnm(t, "greatest", fmt.Sprintf("P%d 1 1 %d%s", sort, most, points)); ok != wantOk {
				t.Errorf("P%d, greatest %d: %v", sort, most, ok)
			}
		}
	}
	for _, most := range []int{3, 15, 255} {
		for point := range 300 {
			if ok := checkPnm(t, "point", fmt.Sprintf("P2 1 1 %d %d", most, point)); ok != (point <= most) {
				t.Errorf("%d of %d: %v", point, most, ok)
			}
			if point < 256 {
				if ok := checkPnm(t, "point", fmt.Sprintf("P5 1 1 %d %s", most, lowBytes(point, 1))); ok != (point <= most) {
					t.Errorf("%d of %d in a byte: %v", point, most, ok)
				}
			}
		}
	}
	for sort := range 10 {
		for _, rest := range []string{" 1 1 1", " 1 1 255 1", " 1 1 255 1 1 1", " 1 1 \x01", " 1 1 255 \x01", " 1 1 255 \x01\x01\x01"} {
			if ok := checkPnm(t, "number", "P"+strconv.Itoa(sort)+rest); ok && (sort < 1 || sort > 6) {
				t.Errorf("P%d is read", sort)
			}
		}
	}
}

func TestPnmGetOfLongTexts(t *testing.T) {
	for _, size := range []int{impl.TextMax - 1, impl.TextMax, impl.TextMax + 1, impl.TextMax + 2, 70000} {
		fill := func(ahead string, by string, behind string) string {
			return ahead + strings.Repeat(by, size-len(ahead)-len(behind)) + behind
		}
		for _, text := range []string{
			fill("P2 1 1 3 2", " ", ""),
			fill("P2 1 1 3 2#", "x", ""),
			fill("P2", "\n", "1 1 3 2"),
			fill("P2 1 1 3 ", "0", "2"),
			fill("P1 1 1", "\t", "0"),
			fill("P5 ", "0", "1 1 3 \x02"),
			fill("P6#", "#", "\n1 1 255 abc"),
		} {
			if ok := checkPnm(t, "a long text", text); ok != (size <= impl.TextMax) {
				t.Errorf("%d bytes: %v: %.20q", size, ok, text)
			}
		}
	}
}

func TestPnmOfAnyText(t *testing.T) {
	r := dice(602)
	for range 4000 {
		text := ""
		for range r.Intn(25) {
			text += []string{"P", "1", "0", "2", "3", "255", " ", "\n", "#", "15", "\x00", "x"}[r.Intn(12)]
		}
		checkPnm(t, "any text", text)
		checkPnm(t, "any text", "P"+strconv.Itoa(1+r.Intn(6))+" 1 1 "+text)
		checkPnm(t, "any text", someText(r, r.Intn(20)))
	}
}

func TestPromise40FiguresCanBeWrittenAndRead(t *testing.T) {
	for i, m := range pictures() {
		laid, check := guardedPicture(m)
		text := impl.ImageWrite(laid)
		check(t, "ImageWrite")
		if text != imageByWords(m) || text == "" {
			t.Fatalf("picture %d: %q, not %q", i, text, imageByWords(m))
		}
		got, ok := impl.ImageRead(text)
		if !ok || !samePicture(got, m) {
			t.Fatalf("picture %d: %v %v, not %v", i, got, ok, m)
		}
	}
	for i, m := range noPictures() {
		if got := impl.ImageWrite(m); got != "" {
			t.Errorf("no picture %d: %q", i, got)
		}
	}
	r := dice(401)
	read := map[bool]int{}
	for i, m := range pictures() {
		if m.Wide*m.High > 60 && i%4 > 0 {
			continue
		}
		text := impl.ImageWrite(m)
		for range 6 {
			read[checkImage(t, "hurt", hurtFigures(r, text))]++
			read[checkImage(t, "hurt", hurt(r, text))]++
			read[checkImage(t, "a figure", someFigure(r.Intn(len(text)), r.Intn(10), text))]++
		}
	}
	if read[true] < 200 || read[false] < 200 {
		t.Errorf("so many were read: %v", read)
	}
}

// someFigure is a text with another figure, where one stands from a place on.
func someFigure(at int, figure int, text string) string {
	for k := at; k < len(text); k++ {
		if text[k] >= '0' && text[k] <= '9' {
			return text[:k] + strconv.Itoa(figure) + text[k+1:]
		}
	}
	return text
}

func TestImageReadByHand(t *testing.T) {
	for text, wantOk := range map[string]bool{
		"1 1 2 2:: 1 0 0 1":                            true,
		"4 1 2 1: 0 16777215: 1 0":                     true,
		"3 32 1 1:: 4294967295":                        true,
		"3 32 1 1:: 0":                                 true,
		"2 24 1 1:: 16777215":                          true,
		"":                                             false,
		":":                                            false,
		"::":                                           false,
		"0 0 0 0::":                                    false,
		"1 1 2 2::1 0 0 1":                             false,
		"1 1 2 2:: 1 0 0":                              false,
		"1 1 2 2:: 1 0 0 1 1":                          false,
		"1 1 2 2:: 1 0 0 2":                            false,
		"1 1 2 2:: 1 0 0 01":                           false,
		"1 1 2 2:: 1 0 0 00":                           false,
		"1 1 2 2:: 1 0 0 +1":                           false,
		"1 1 2 2:: 1 0 0 -1":                           false,
		"1 1 2 2:: 1 0 -0 1":                           false,
		"1 1 2 2:: 1 0 0 1 ":                           false,
		"1 1 2 2:: 1 0 0 1\n":                          false,
		"1 1 2 2:: 1 0 0 1:":                           false,
		"1 1 2 2:: 1 0 0 1x":                           false,
		"1 1 2 2:: 1 0 0 1\x00":                        false,
		" 1 1 2 2:: 1 0 0 1":                           false,
		"1 1 2 2 :: 1 0 0 1":                           false,
		"1 1 2 2: : 1 0 0 1":                           false,
		"1 1 2 2::  1 0 0 1":                           false,
		"1 1 2 2:: 1  0 0 1":                           false,
		"1 1  2 2:: 1 0 0 1":                           false,
		"1 1 2 2:: 1\t0 0 1":                           false,
		"1 1 2 2:: 1\n0 0 1":                           false,
		"1 1 2 2: 1 0 0 1":                             false,
		"1 1 2 2 1 0 0 1":                              false,
		"1 1 2:: 1 0 0 1":                              false,
		"1 1 2 2 2:: 1 0 0 1":                          false,
		"1 1 2 2::: 1 0 0 1":                           false,
		"01 1 2 2:: 1 0 0 1":                           false,
		"1 01 2 2:: 1 0 0 1":                           false,
		"1 1 02 2:: 1 0 0 1":                           false,
		"1 1 2 02:: 1 0 0 1":                           false,
		"+1 1 2 2:: 1 0 0 1":                           false,
		"-1 1 2 2:: 1 0 0 1":                           false,
		"1 1 2 2: 0: 1 0 0 1":                          false,
		"1 3 2 2:: 1 0 0 1":                            false,
		"5 1 2 2:: 1 0 0 1":                            false,
		"1 1 21 1::" + strings.Repeat(" 1", 21):        false,
		"1 1 20 1::" + strings.Repeat(" 1", 20):        true,
		"4 1 2 1: 0 16777216: 1 0":                     false,
		"4 1 2 1: 0 016777215: 1 0":                    false,
		"4 1 2 1: 0: 1 0":                              false,
		"4 1 2 1:: 0 0":                                false,
		"4 1 2 1: 0 1 2: 1 0":                          false,
		"4 1 2 1: 0: 0 0":                              true,
		"3 32 1 1:: 4294967296":                        false,
		"3 32 1 1:: 04294967295":                       false,
		"3 32 1 1:: 18446744073709551616":              false,
		"3 32 1 1:: 18446744073709551617":              false,
		"18446744073709551617 1 2 2:: 1 0 0 1":         false,
		"1 18446744073709551617 2 2:: 1 0 0 1":         false,
		"1 1 2 2:: 1 0 0 18446744073709551617":         false,
		"1 1 2 2:: 1 0 0 " + strings.Repeat("9", 5000): false,
		"1 1 2 2:: 1 0 0 " + strings.Repeat("0", 5000): false,
		"1 1 1 1::" + strings.Repeat(" 0", 40000):      false,
		strings.Repeat("1", 70000):                     false,
		"KIND DEPTH WIDE HIGH::":                       false,
		"1, 1, 2, 2:: 1 0 0 1":                         false,
		"1 1 2 2;; 1 0 0 1":                            false,
	} {
		if ok := checkImage(t, "by hand", text); ok != wantOk {
			t.Errorf("%.60q: %v", text, ok)
		}
	}
}

func TestImageReadOfEachByte(t *testing.T) {
	for _, text := range []string{"1 1 2 2:: 1 0 0 1", "4 2 2 1: 0 16777215 7: 1 0", "3 32 1 1:: 4294967295"} {
		for at := range len(text) {
			for b := range 256 {
				checkImage(t, "a byte", text[:at]+lowBytes(b, 1)+text[at+1:])
				checkImage(t, "one more", text[:at]+lowBytes(b, 1)+text[at:])
			}
			if checkImage(t, "cut off", text[:at]) && at < len(text)-1 && text[at] == ' ' {
				t.Errorf("%q is enough", text[:at])
			}
			checkImage(t, "one left out", text[:at]+text[at+1:])
		}
		for b := range 256 {
			if checkImage(t, "behind", text+lowBytes(b, 1)) {
				t.Errorf("%q with %d behind", text, b)
			}
		}
	}
}

func TestPnmAnswersAreNewMemory(t *testing.T) {
	for _, text := range []string{"P1 2 1 10", "P2 2 1 3 1 2", "P3 1 1 255 1 2 3", "P4 2 1 \x80", "P5 2 1 3 \x01\x02", "P6 1 1 255 abc"} {
		want, _ := impl.PnmGet(text)
		want = copied(want)
		for range 2 {
			got, ok := impl.PnmGet(text)
			if !ok || !samePicture(got, want) {
				t.Fatalf("%q: %v %v", text, got, ok)
			}
			spoil(got.Pix, 77)
			spoil(got.Colors, 78)
		}
	}
	for range 2 {
		got, ok := impl.ImageRead("4 2 3 2: 16711680 65280 255: 0 1 2 2 1 0")
		if !ok || fmt.Sprint(got) != "{4 2 3 2 [16711680 65280 255] [0 1 2 2 1 0]}" {
			t.Fatalf("%v %v", got, ok)
		}
		spoil(got.Colors, 77)
		if fmt.Sprint(got.Pix) != "[0 1 2 2 1 0]" {
			t.Error("both lists share memory")
		}
		spoil(got.Pix, 78)
	}
}
