package tests

import (
	"fmt"
	"runtime"
	"slices"
	"strings"
	"testing"
	"time"

	"loop.example/intarsia/impl"
)

func TestFormNumbers(t *testing.T) {
	if !slices.Equal(forms, []int{1, 2, 3, 4, 5}) {
		t.Errorf("%v", forms)
	}
	for form, want := range formWays {
		if got := impl.Ways(form); got != want {
			t.Errorf("format %d has %d ways", form, got)
		}
	}
	for _, form := range noForms {
		if got := impl.Ways(form); got != 0 {
			t.Errorf("format %d has %d ways", form, got)
		}
	}
}

func TestSniffByHand(t *testing.T) {
	for _, c := range []struct {
		text string
		want int
	}{
		{"\x89PNG\r\n\x1a\n", 1},
		{"\x89PNG\r\n\x1a\nand more", 1},
		{"\x89PNG\r\n\x1a", 0},
		{"\x89PNG\r\n\x1a\r", 0},
		{"\x89PNG\n\x1a\n", 0},
		{"\x89PNG", 0},
		{"\x89", 0},
		{"PNG\r\n\x1a\n", 0},
		{"\u0089PNG\r\n\x1a\n", 0},
		{"GIF87a", 2},
		{"GIF89a", 2},
		{"GIF89aGIF87a", 2},
		{"GIF88a", 0},
		{"GIF89A", 0},
		{"gif89a", 0},
		{"GIF89", 0},
		{"GIF8", 0},
		{"GIF", 0},
		{"GIF97a", 0},
		{"BM", 3},
		{"BMP", 3},
		{"BM\x00", 3},
		{"B", 0},
		{"bm", 0},
		{"MB", 0},
		{"BA", 0},
		{"P1", 5},
		{"P2", 5},
		{"P3", 5},
		{"P4", 5},
		{"P5", 5},
		{"P6", 5},
		{"P6 ", 5},
		{"P11", 5},
		{"P6x", 5},
		{"P", 0},
		{"P0", 0},
		{"P7", 0},
		{"P/", 0},
		{"p1", 0},
		{"P 1", 0},
		{" P1", 0},
		{"1", 0},
		{"", 0},
		{"\x00", 0},
		{"TGA", 0},
		{"\x00\x00\x02", 0},
		{"P6" + strings.Repeat("x", 100000), 5},
	} {
		if got := impl.Sniff(c.text); got != c.want || got != sniffByWords(c.text) {
			t.Errorf("%.20q: %d, not %d", c.text, got, c.want)
		}
	}
	for _, begin := range []string{"\x89PNG\r\n\x1a\n", "GIF87a", "GIF89a", "BM", "P1", "P6"} {
		for at := range len(begin) {
			for b := range 256 {
				text := begin[:at] + lowBytes(b, 1) + begin[at+1:]
				if impl.Sniff(text) != sniffByWords(text) || impl.Sniff(text[:at]) != sniffByWords(text[:at]) {
					t.Errorf("%q: %d", text, impl.Sniff(text))
				}
			}
		}
	}
}

// anyPictures are pictures of each kind with each depth, such as each format can hold or not, fewer than all.
func anyPictures() []impl.Image {
	r := dice(131)
	var all []impl.Image
	for _, kd := range kindDepths {
		for _, colors := range []int{1, 1<<min(kd[1], 8) - 1, 1 << min(kd[1], 8)} {
			for _, size := range [][2]int{{1, 1}, {9, 2}, {20, 20}, {2, 20}, {7, 5}} {
				if kd[0] == impl.KindPal || colors == 1 {
					all = append(all, somePicture(r, kd[0], kd[1], size[0], size[1], colors))
				}
			}
		}
	}
	return append(all, solidRgba(r, 4, 4), fewColors(r, 20, 20, 257), fewColors(r, 20, 20, 2))
}

func TestPromise61WhatWasWrittenBeginsAsItsFormatDoes(t *testing.T) {
	for i, m := range slices.Concat(anyPictures(), bytePictures(), fullLists()) {
		for _, form := range forms {
			for way := range impl.Ways(form) {
				text, ok := impl.Encode(form, m, way)
				if ok && form != impl.FormTga && impl.Sniff(text) != form {
					t.Fatalf("picture %d, format %d, way %d: %d", i, form, way, impl.Sniff(text))
				}
				// A TGA has no beginning of its own.
				if ok && form == impl.FormTga && impl.Sniff(text) != 0 {
					t.Fatalf("picture %d as TGA: %d", i, impl.Sniff(text))
				}
				if i > 60 && form == impl.FormPng {
					break
				}
			}
		}
	}
}

func TestPromise62APictureComesOutOfEachFormatThatCanHoldIt(t *testing.T) {
	held := map[int]int{}
	for i, m := range anyPictures() {
		for _, form := range forms {
			rep := impl.Rep(form, m)
			if rep != repByWords(form, m) {
				t.Fatalf("picture %d, format %d: %v", i, form, rep)
			}
			for way := -1; way <= impl.Ways(form); way++ {
				laid, check := guardedPicture(m)
				text, ok := impl.Encode(form, laid, way)
				check(t, "Encode")
				want, wantOk := encodeByWords(form, m, way)
				if text != want || ok != wantOk || ok != (rep && way >= 0 && way < impl.Ways(form)) {
					t.Fatalf("picture %d, format %d, way %d: %x %v, not %x %v", i, form, way, text, ok, want, wantOk)
				}
				if !ok {
					continue
				}
				held[form]++
				if got, ok := impl.Decode(form, text); !ok || !samePicture(got, m) {
					t.Fatalf("picture %d, format %d, way %d: %v %v, not %v", i, form, way, got, ok, m)
				}
			}
		}
	}
	for _, form := range forms {
		if held[form] < 10 {
			t.Errorf("format %d holds %d", form, held[form])
		}
	}
}

// Which format can hold which kind with which depth, written out.
func TestRepByHand(t *testing.T) {
	for _, c := range []struct {
		kind   int
		depth  int
		colors int
		want   string
	}{
		{impl.KindGray, 1, 0, "png pnm"},
		{impl.KindGray, 2, 0, "png pnm"},
		{impl.KindGray, 4, 0, "png pnm"},
		{impl.KindGray, 8, 0, "png tga pnm"},
		{impl.KindRgb, 24, 0, "png bmp tga pnm"},
		{impl.KindRgba, 32, 0, "png tga"},
		{impl.KindPal, 1, 1, "png"},
		{impl.KindPal, 1, 2, "png gif"},
		{impl.KindPal, 2, 2, "png"},
		{impl.KindPal, 2, 3, "png"},
		{impl.KindPal, 2, 4, "png gif"},
		{impl.KindPal, 4, 15, "png"},
		{impl.KindPal, 4, 16, "png gif"},
		{impl.KindPal, 8, 1, "png bmp tga"},
		{impl.KindPal, 8, 255, "png bmp tga"},
		{impl.KindPal, 8, 256, "png gif bmp tga"},
	} {
		m := impl.Image{Kind: c.kind, Depth: c.depth, Wide: 2, High: 1, Colors: make([]int, c.colors), Pix: []int{0, 0}}
		var can []string
		for _, form := range forms {
			if impl.Rep(form, m) {
				can = append(can, formNames[form])
			}
		}
		if got := strings.Join(can, " "); got != c.want {
			t.Errorf("kind %d, depth %d, %d colours: %s", c.kind, c.depth, c.colors, got)
		}
	}
}

func TestEncodeByItsWays(t *testing.T) {
	pal, rgb := fullList(dice(132), 8, 9, 10), somePicture(dice(133), impl.KindRgb, 24, 9, 10, 0)
	for way := range 30 {
		for _, m := range []impl.Image{pal, rgb} {
			if got, ok := impl.Encode(impl.FormPng, m, way); got != impl.PngPut(m, way%5, way/5%2 == 1, way/10) || !ok || got == "" {
				t.Errorf("PNG, way %d: %x %v", way, got, ok)
			}
		}
	}
	for way := range 2 {
		one := way == 1
		for what, c := range map[string]struct {
			form int
			m    impl.Image
			want string
		}{
			"GIF":                       {impl.FormGif, pal, impl.GifPut(pal, one)},
			"BMP":                       {impl.FormBmp, pal, impl.BmpPut(pal, one)},
			"BMP, which has no runs":    {impl.FormBmp, rgb, impl.BmpPut(rgb, false)},
			"TGA":                       {impl.FormTga, pal, impl.TgaPut(pal, one)},
			"TGA of red, green, blue":   {impl.FormTga, rgb, impl.TgaPut(rgb, one)},
			"PNM":                       {impl.FormPnm, rgb, impl.PnmPut(rgb, one)},
			"PNG, of the first of ways": {impl.FormPng, rgb, impl.PngPut(rgb, way, false, 0)},
		} {
			if got, ok := impl.Encode(c.form, c.m, way); got != c.want || !ok || got == "" {
				t.Errorf("%s, way %d: %x %v", what, way, got, ok)
			}
		}
	}
}

func TestEncodeOfWrongArguments(t *testing.T) {
	for i, m := range noPictures() {
		for _, form := range forms {
			if impl.Rep(form, m) {
				t.Errorf("format %d can hold no picture %d", form, i)
			}
			for _, way := range []int{0, 1, 29} {
				if text, ok := impl.Encode(form, m, way); text != "" || ok {
					t.Errorf("no picture %d, format %d: %x %v", i, form, text, ok)
				}
			}
		}
	}
	for _, m := range anyPictures() {
		for _, form := range noForms {
			if impl.Rep(form, m) {
				t.Errorf("format %d", form)
			}
			if text, ok := impl.Encode(form, m, 0); text != "" || ok {
				t.Errorf("format %d: %x %v", form, text, ok)
			}
		}
		for _, form := range forms {
			for _, way := range append([]int{-1, -2, formWays[form], formWays[form] + 1, 256, 1 << 32}, extremes...) {
				if text, ok := impl.Encode(form, m, way); text != "" || ok {
					t.Errorf("format %d, way %d: %x %v", form, way, text, ok)
				}
			}
		}
	}
}

// writtenTexts are texts of each format, in each way that looks another one, by the number of the format.
func writtenTexts() map[int][]string {
	all := map[int][]string{}
	for i, m := range anyPictures() {
		if m.Wide*m.High > 100 && i%2 > 0 {
			continue
		}
		for _, form := range forms {
			for way := range impl.Ways(form) {
				if text, ok := impl.Encode(form, m, way); ok && (form != impl.FormPng || (i+way)%7 == 0) {
					all[form] = append(all[form], text)
				}
			}
		}
	}
	return all
}

func TestPromise63WhatIsReadInAFormatIsOk(t *testing.T) {
	r := dice(631)
	read := map[int]int{}
	look := func(form int, text string) {
		t.Helper()
		got, ok := impl.Decode(form, text)
		want, wantOk := decodeByWords(form, text)
		if ok != wantOk || !samePicture(got, want) {
			t.Fatalf("format %d: %x\n%v %v, not\n%v %v", form, text, got, ok, want, wantOk)
		}
		if !ok {
			return
		}
		read[form]++
		again, fine := impl.PngGet(pngWays()[r.Intn(30)].put(got))
		if !impl.ImageOk(got) || !fine || !samePicture(again, got) {
			t.Fatalf("format %d: %x\n%v, again %v %v", form, text, got, again, fine)
		}
	}
	for of, texts := range writtenTexts() {
		for i, text := range texts {
			for _, form := range forms {
				if form == of || i%5 == 0 {
					look(form, text)
					look(form, hurt(r, text))
				}
			}
			for _, form := range noForms {
				if got, ok := impl.Decode(form, text); ok || !isNothing(got) {
					t.Fatalf("format %d: %v %v", form, got, ok)
				}
			}
		}
	}
	for range 500 {
		look(1+r.Intn(5), someText(r, r.Intn(40)))
	}
	for _, form := range forms {
		if read[form] < 20 {
			t.Errorf("of format %d only %d were read", form, read[form])
		}
		for _, text := range []string{"", strings.Repeat("x", impl.TextMax+1)} {
			if got, ok := impl.Decode(form, text); ok || !isNothing(got) {
				t.Errorf("format %d: %v %v", form, got, ok)
			}
		}
	}
}

func TestPromise64WhatGoesFromOneFormatToAnotherLosesNothing(t *testing.T) {
	r := dice(641)
	went := map[[2]int]int{}
	look := func(from int, to int, text string, way int) {
		t.Helper()
		m, ok := impl.Decode(from, text)
		can := ok && repByWords(to, m) && way >= 0 && way < formWays[to]
		got, done := impl.Convert(from, to, text, way)
		if done != can || (got != "") != can {
			t.Fatalf("from %d to %d, way %d: %x %v", from, to, way, got, done)
		}
		if !can {
			return
		}
		went[[2]int{from, to}]++
		if want, _ := encodeByWords(to, m, way); got != want {
			t.Fatalf("from %d to %d, way %d: %x, not %x", from, to, way, got, want)
		}
		if again, ok := impl.Decode(to, got); !ok || !samePicture(again, m) {
			t.Fatalf("from %d to %d, way %d: %v %v, not %v", from, to, way, again, ok, m)
		}
	}
	for from, texts := range writtenTexts() {
		for i, text := range texts {
			for _, to := range forms {
				for _, way := range []int{-1, 0, 1, 2, r.Intn(30), 29, 30} {
					if len(text) < 200 || (i+way)%3 == 0 {
						look(from, to, text, way)
					}
				}
				look(from, to, hurt(r, text), r.Intn(2))
			}
		}
	}
	// Only GIF and PNM have no kind of pictures in common.
	for _, from := range forms {
		for _, to := range forms {
			if pair := [2]int{from, to}; went[pair] == 0 && pair != [2]int{2, 5} && pair != [2]int{5, 2} {
				t.Errorf("from %d to %d none went", from, to)
			}
		}
	}
}

func TestConvertOfWrongArguments(t *testing.T) {
	m := fullList(dice(642), 8, 3, 2)
	for _, form := range forms {
		text, ok := impl.Encode(form, m, 0)
		if !ok {
			continue
		}
		for _, no := range noForms {
			if got, ok := impl.Convert(form, no, text, 0); got != "" || ok {
				t.Errorf("from %d to %d: %x %v", form, no, got, ok)
			}
			if got, ok := impl.Convert(no, form, text, 0); got != "" || ok {
				t.Errorf("from %d to %d: %x %v", no, form, got, ok)
			}
		}
		for _, way := range append([]int{-1, formWays[form]}, extremes...) {
			if got, ok := impl.Convert(form, form, text, way); got != "" || ok {
				t.Errorf("format %d, way %d: %x %v", form, way, got, ok)
			}
		}
		for _, to := range forms {
			for _, no := range []string{"", text[:len(text)-1], text + "\x00"} {
				if got, ok := impl.Convert(form, to, no, 0); got != "" || ok {
					t.Errorf("from %d to %d: %x %v", form, to, got, ok)
				}
			}
		}
	}
}

func TestPromise65ThereAndBackItIsTheSame(t *testing.T) {
	for i, m := range anyPictures() {
		for _, from := range forms {
			for way := range impl.Ways(from) {
				text, ok := impl.Encode(from, m, way)
				if !ok || from == impl.FormPng && (i+way)%6 > 0 {
					continue
				}
				if got, ok := impl.Convert(from, from, text, way); got != text || !ok {
					t.Fatalf("picture %d, format %d, way %d: %x %v, not %x", i, from, way, got, ok, text)
				}
				for _, to := range forms {
					there, ok := impl.Convert(from, to, text, way%2)
					if ok != impl.Rep(to, m) {
						t.Fatalf("picture %d from %d to %d: %v", i, from, to, ok)
					}
					for back := range min(2, impl.Ways(from)) {
						again, fine := impl.Convert(to, from, there, back)
						got, _ := impl.Decode(from, again)
						if fine != ok || fine && !samePicture(got, m) {
							t.Fatalf("picture %d from %d to %d and back: %v %v, not %v", i, from, to, got, fine, m)
						}
					}
				}
			}
		}
	}
}

func TestPromise66EachPictureCanBeHeldByPng(t *testing.T) {
	for i, m := range pictures() {
		if !impl.Rep(impl.FormPng, m) {
			t.Errorf("PNG cannot hold picture %d", i)
		}
		for _, form := range forms {
			rep := impl.Rep(form, m)
			if rep != repByWords(form, m) || impl.Rep(form, impl.ImageFlip(m)) != rep || impl.Rep(form, impl.ImageTurn(m)) != rep {
				t.Errorf("picture %d, format %d: %v", i, form, rep)
			}
		}
	}
	for i, m := range noPictures() {
		for _, form := range forms {
			if impl.Rep(form, m) {
				t.Errorf("format %d can hold no picture %d", form, i)
			}
		}
	}
}

// The document's own example.
const sessionLines = `image 4 2 3 2: 16711680 65280 255: 0 1 2 2 1 0
put png 26
sniff
get png
put gif 0
turn
rgb
put bmp 0
get bmp
put pnm 1
get pnm
pal
put tga 1
image 4 1 2 1: 0 16777215: 1 0
put gif 1
sniff
get gif
flip
get bmp
put png 30
what`

const sessionAnswers = `ok
102 bytes, sum 1095471143
it is png
4 2 3 2: 16711680 65280 255: 0 1 2 2 1 0
no way
ok
ok
78 bytes, sum 4043373968
2 24 2 3:: 255 16711680 65280 65280 16711680 255
62 bytes, sum 369680574
2 24 2 3:: 255 16711680 65280 65280 16711680 255
ok
no way
ok
35 bytes, sum 36824666
it is gif
4 1 2 1: 0 16777215: 1 0
ok
no picture
no way
what
`

func TestSessionOfTheDocument(t *testing.T) {
	lines, check := guarded(strings.Split(sessionLines, "\n"), "flip")
	if got := impl.Session(lines); got != sessionAnswers {
		t.Errorf("%s", got)
	}
	check(t, "Session")
	answers := strings.SplitAfter(sessionAnswers, "\n")
	for count := range lines {
		if got := impl.Session(lines[:count]); got != strings.Join(answers[:count], "") {
			t.Errorf("%d lines: %s", count, got)
		}
	}
}

// checkSession holds what lines are answered by against the words.
func checkSession(t *testing.T, lines ...string) string {
	t.Helper()
	got := impl.Session(lines)
	if want := sessionByWords(lines); got != want {
		t.Fatalf("%q\n%s, not\n%s", lines, got, want)
	}
	return got
}

func TestPromise67ASessionTellsWhatItsLinesDo(t *testing.T) {
	r := dice(671)
	all := slices.DeleteFunc(anyPictures(), func(m impl.Image) bool { return m.Wide*m.High > 60 })
	told := map[string]int{}
	for range 400 {
		lines := make([]string, r.Intn(30))
		for i := range lines {
			lines[i] = someLine(r, all)
		}
		got := checkSession(t, lines...)
		if strings.Count(got, "\n") != len(lines) {
			t.Fatalf("%q: %q", lines, got)
		}
		for _, answer := range strings.Split(strings.TrimSuffix(got, "\n"), "\n") {
			told[strings.Trim(answer, "0123456789")]++
		}
	}
	for _, word := range []string{"ok", "no way", "no picture", "no colours", "what", "it is ", "it is png", "it is gif", "it is bmp", "it is pnm", " bytes, sum "} {
		if told[word] == 0 {
			t.Errorf("%q was never told: %v", word, told)
		}
	}
}

func TestSessionOfNoLine(t *testing.T) {
	if got := impl.Session(nil); got != "" {
		t.Errorf("%q", got)
	}
	if got := impl.Session([]string{}); got != "" {
		t.Errorf("%q", got)
	}
	if got := impl.Session([]string{""}); got != "what\n" {
		t.Errorf("%q", got)
	}
}

func TestSessionOfManyLines(t *testing.T) {
	for _, count := range []int{99, 100, 101, 102, 200, 100000} {
		lines := slices.Repeat([]string{"what", "sniff"}, count)[:count]
		want := strings.Repeat("what\nit is \n", 50)
		if count == 99 {
			want = strings.TrimSuffix(want, "it is \n")
		}
		if got := impl.Session(lines); got != want {
			t.Errorf("%d lines: %d answers", count, strings.Count(got, "\n"))
		}
	}
	// The hundredth is done, the one behind it not.
	lines := append(slices.Repeat([]string{"what"}, 98), "image 1 1 1 1:: 0", "put pnm 0", "put pnm 1")
	if got := checkSession(t, lines...); !strings.HasSuffix(got, fmt.Sprintf("what\nok\n8 bytes, sum %d\n", impl.Crc32("P4\n1 1\n\x80"))) {
		t.Errorf("%q", got)
	}
}

func TestSessionWithNothingAtHand(t *testing.T) {
	for line, want := range map[string]string{
		"sniff": "it is \n", "flip": "ok\n", "turn": "ok\n", "rgb": "no colours\n", "pal": "no colours\n",
		"get png": "no picture\n", "get gif": "no picture\n", "get bmp": "no picture\n", "get tga": "no picture\n", "get pnm": "no picture\n",
		"put png 0": "no way\n", "put gif 0": "no way\n", "put bmp 1": "no way\n", "put tga 1": "no way\n", "put pnm 0": "no way\n",
		"image ": "no image\n", "image": "what\n", "": "what\n",
	} {
		if got := checkSession(t, line); got != want {
			t.Errorf("%q: %q", line, got)
		}
	}
}

func TestSessionOfWrongLines(t *testing.T) {
	first := []string{"image 4 1 2 1: 0 16777215: 1 0", "put gif 0"}
	last := []string{"sniff", "get gif", "put png 0"}
	want := impl.Session(slices.Concat(first, last))
	wantLast := strings.SplitAfterN(want, "\n", 3)[2]
	look := func(line string, answer string) {
		t.Helper()
		got := checkSession(t, slices.Concat(first, []string{line}, last)...)
		if parts := strings.SplitAfterN(got, "\n", 4); parts[2] != answer+"\n" || parts[3] != wantLast {
			t.Errorf("%q: %q", line, got)
		}
	}
	for _, line := range wrongLines {
		look(line, "what")
	}
	for _, line := range []string{
		"image ", "image  ", "image x", "image 4 1 2 1: 0 16777215: 1 2", "image 4 1 2 1: 0 16777215: 1 0 ", "image  4 1 2 1: 0 16777215: 1 0",
		"image 4 1 2 1: 0 16777215: 1 00", "image 4 1 2 1: 0 16777215: 1 0\n", "image image 4 1 2 1: 0 1: 1 0",
	} {
		look(line, "no image")
	}
	for _, line := range []string{
		"put png -1", "put png 30", "put png 31", "put png 100", "put gif 2", "put gif -1", "put bmp 0", "put tga 0", "put pnm 0", "put pnm 1", "put bmp 1", "put tga 1",
		"put png 9223372036854775807", "put png 9223372036854775808", "put png -9223372036854775808", "put png -9223372036854775809", "put png 18446744073709551616",
		"put png 4294967296", "put png " + strings.Repeat("9", 5000), "put png -" + strings.Repeat("1", 100),
	} {
		look(line, "no way")
	}
	for _, line := range []string{"get png", "get bmp", "get tga", "get pnm"} {
		look(line, "no picture")
	}
}

// With what is not done both the picture and the text stay; each line changes one of them at most.
func TestSessionKeepsWhatIsAtHand(t *testing.T) {
	for _, c := range []struct {
		lines string
		want  string
	}{
		{"image 3 32 1 1:: 254|rgb|pal|put tga 0|get tga", "ok|no colours|no colours|22 bytes, sum N|3 32 1 1:: 254"},
		{"image 3 32 1 1:: 511|rgb|put tga 0|get tga|pal|put tga 0|get tga|put png 0|get png", "ok|ok|21 bytes, sum N|2 24 1 1:: 1|ok|no way|2 24 1 1:: 1|72 bytes, sum N|2 24 1 1:: 1"},
		{"image 1 1 2 1:: 0 1|put pnm 0|image 1 1 1 1:: 1|get pnm|flip|turn|put pnm 1|get pnm", "ok|8 bytes, sum N|ok|1 1 2 1:: 0 1|ok|ok|13 bytes, sum N|1 1 1 2:: 0 1"},
		{"image 1 1 2 2:: 0 1 1 1|flip|put pnm 1|get pnm|turn|put pnm 1|get pnm", "ok|ok|17 bytes, sum N|1 1 2 2:: 1 1 0 1|ok|17 bytes, sum N|1 1 2 2:: 0 1 1 1"},
		{"image 1 1 2 1:: 0 1|put pnm 0|image x|get bmp|put gif 0|what|sniff|get pnm", "ok|8 bytes, sum N|no image|no picture|no way|what|it is pnm|1 1 2 1:: 0 1"},
		{"image 2 24 1 1:: 7|put bmp 1|sniff|get bmp|put bmp 0|get bmp|pal|put bmp 0|rgb|put bmp 0|sniff", "ok|58 bytes, sum N|it is bmp|2 24 1 1:: 7|58 bytes, sum N|2 24 1 1:: 7|ok|no way|ok|58 bytes, sum N|it is bmp"},
		{"image 1 8 1 1:: 9|put tga 0|sniff|get png|get gif|get bmp|get pnm|get tga", "ok|19 bytes, sum N|it is |no picture|no picture|no picture|no picture|1 8 1 1:: 9"},
	} {
		got := checkSession(t, strings.Split(c.lines, "|")...)
		for _, answer := range strings.Split(got, "\n") {
			if _, sum, ok := strings.Cut(answer, "bytes, sum "); ok {
				got = strings.Replace(got, "sum "+sum, "sum N", 1)
			}
		}
		if want := strings.ReplaceAll(c.want, "|", "\n") + "\n"; got != want {
			t.Errorf("%s\n%s, not\n%s", c.lines, got, want)
		}
	}
}

// Each picture through each format, as a session tells it.
func TestSessionOfEachFormat(t *testing.T) {
	for i, m := range anyPictures() {
		for _, form := range forms {
			way := i % formWays[form]
			text, ok := impl.Encode(form, m, way)
			put := "no way"
			get, sniff := "no picture", "it is "
			if ok {
				put = fmt.Sprintf("%d bytes, sum %d", len(text), impl.Crc32(text))
				get = impl.ImageWrite(m)
				sniff = "it is " + formNames[impl.Sniff(text)]
			}
			got := impl.Session([]string{"image " + impl.ImageWrite(m), fmt.Sprintf("put %s %d", formNames[form], way), "turn", "sniff", "get " + formNames[form]})
			if want := strings.Join([]string{"ok", put, "ok", sniff, get, ""}, "\n"); got != want {
				t.Fatalf("picture %d, format %d: %s, not %s", i, form, got, want)
			}
		}
	}
}

// What a session starts has ended when it answers, and no two sessions know of each other.
func TestSessionsAtTheSameTime(t *testing.T) {
	before := runtime.NumGoroutine()
	done := make(chan string)
	lines := strings.Split(sessionLines, "\n")
	work := func(count int) {
		for range 20 {
			got := impl.Session(lines[:count])
			if want := strings.Join(strings.SplitAfter(sessionAnswers, "\n")[:count], ""); got != want {
				done <- got
				return
			}
		}
		done <- ""
	}
	for i := range 8 {
		go work(len(lines) - i)
	}
	for range 8 {
		if wrong := <-done; wrong != "" {
			t.Error(wrong)
		}
	}
	for range 100 {
		if runtime.NumGoroutine() <= before {
			return
		}
		time.Sleep(10 * time.Millisecond)
	}
	t.Errorf("%d goroutines, %d at first", runtime.NumGoroutine(), before)
}

func TestAnyAnswersAreNewMemory(t *testing.T) {
	m := fullList(dice(132), 8, 5, 4)
	for _, form := range forms {
		text, ok := impl.Encode(form, m, 1)
		if !ok {
			continue
		}
		for range 2 {
			got, ok := impl.Decode(form, text)
			if !ok || !samePicture(got, m) {
				t.Fatalf("format %d: %v %v", form, got, ok)
			}
			spoil(got.Colors, 77)
			if !slices.Equal(got.Pix, m.Pix) {
				t.Errorf("format %d: both lists share memory", form)
			}
			spoil(got.Pix, 78)
		}
		if again, _ := impl.Convert(form, form, text, 1); again != text || sharesText(again, text) {
			t.Errorf("format %d: memory of an argument", form)
		}
	}
	line := "image " + impl.ImageWrite(m)
	if got := impl.Session([]string{line, "put png 0", "get png"}); !strings.HasSuffix(got, "\n"+line[6:]+"\n") || sharesText(got, line) {
		t.Errorf("%q", got)
	}
}
