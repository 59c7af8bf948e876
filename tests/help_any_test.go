package tests

import (
	"fmt"
	"hash/crc32"
	"math/rand"
	"regexp"
	"slices"
	"strconv"
	"strings"

	"loop.example/intarsia/impl"
)

// forms are all formats, noForms such as are none.
var (
	forms     = []int{impl.FormPng, impl.FormGif, impl.FormBmp, impl.FormTga, impl.FormPnm}
	formNames = []string{"", "png", "gif", "bmp", "tga", "pnm"}
	noForms   = append([]int{0, 6, 7, -5, 255, 256, 257}, extremes...)
	formWays  = []int{0, 30, 2, 2, 2, 2}
)

// repByWords is what Rep must tell.
func repByWords(form int, m impl.Image) bool {
	switch form {
	case 1:
		return okByWords(m)
	case 2:
		return gifCan(m)
	case 3:
		return bmpCan(m, false)
	case 4:
		return tgaCan(m)
	case 5:
		return pnmCan(m)
	}
	return false
}

// encodeByWords is what Encode must tell.
func encodeByWords(form int, m impl.Image, way int) (string, bool) {
	if !repByWords(form, m) || way < 0 || way >= formWays[form] {
		return "", false
	}
	one := way == 1
	switch form {
	case 1:
		return pngByWords(m, way%5, way/5 == 1 || way/5 == 3 || way/5 == 5, way/10), true
	case 2:
		return gifByWords(m, one), true
	case 3:
		return bmpByWords(m, one && m.Kind == impl.KindPal), true
	case 4:
		return tgaByWords(m, one), true
	}
	return pnmByWords(m, one), true
}

// decodeByWords is what Decode must tell.
func decodeByWords(form int, text string) (impl.Image, bool) {
	switch form {
	case 1:
		return pngGetByWords(text)
	case 2:
		return gifGetByWords(text)
	case 3:
		return bmpGetByWords(text)
	case 4:
		return tgaGetByWords(text)
	case 5:
		return pnmGetByWords(text)
	}
	return impl.Image{}, false
}

var begins = regexp.MustCompile(`(?s)\A(?:(\x{89}PNG\r\n\x1a\n)|(GIF8[79]a)|(BM)|(P[1-6]))`)

// sniffByWords is what Sniff must tell.
func sniffByWords(text string) int {
	// Each byte as a character of its own: a regular expression knows no others.
	var runes []rune
	for i := range min(len(text), 8) {
		runes = append(runes, rune(text[i]))
	}
	found := begins.FindStringSubmatch(string(runes))
	for i, part := range found {
		if i > 0 && part != "" {
			return []int{0, 1, 2, 3, 5}[i]
		}
	}
	return 0
}

// flipByWords and turnByWords are what a session's lines do with a picture, if there is one.
func flipByWords(m impl.Image) impl.Image {
	if !okByWords(m) {
		return impl.Image{}
	}
	rows := slices.Collect(slices.Chunk(m.Pix, m.Wide))
	slices.Reverse(rows)
	m.Pix = slices.Concat(rows...)
	return m
}

func turnByWords(m impl.Image) impl.Image {
	if !okByWords(m) {
		return impl.Image{}
	}
	var pix []int
	for x := range m.Wide {
		for y := m.High - 1; y >= 0; y-- {
			pix = append(pix, m.Pix[y*m.Wide+x])
		}
	}
	m.Wide, m.High, m.Pix = m.High, m.Wide, pix
	return m
}

// rgbByWords is a picture as one of red, green and blue.
func rgbByWords(m impl.Image) (impl.Image, bool) {
	if !okByWords(m) || !isDense(m) {
		return impl.Image{}, false
	}
	out := impl.Image{Kind: impl.KindRgb, Depth: 24, Wide: m.Wide, High: m.High}
	for i := range m.Pix {
		out.Pix = append(out.Pix, colorByWords(m, i%m.Wide, i/m.Wide)/256)
	}
	return out, true
}

var (
	putLine = regexp.MustCompile(`\Aput (png|gif|bmp|tga|pnm) (0|-?[1-9][0-9]*)\z`)
	getLine = regexp.MustCompile(`\Aget (png|gif|bmp|tga|pnm)\z`)
)

// lineByWords is what a line is answered by, and what is at hand behind it.
func lineByWords(m impl.Image, text string, line string) (string, impl.Image, string) {
	take := func(next impl.Image, ok bool, answer string, no string) (string, impl.Image, string) {
		if !ok {
			return no, m, text
		}
		return answer, next, text
	}
	if figures, ok := strings.CutPrefix(line, "image "); ok {
		next, ok := imageReadByWords(figures)
		return take(next, ok, "ok", "no image")
	}
	if found := putLine.FindStringSubmatch(line); found != nil {
		way, err := strconv.Atoi(found[2])
		if next, ok := encodeByWords(slices.Index(formNames, found[1]), m, way); ok && err == nil {
			return fmt.Sprintf("%d bytes, sum %d", len(next), crc32.ChecksumIEEE([]byte(next))), m, next
		}
		return "no way", m, text
	}
	if found := getLine.FindStringSubmatch(line); found != nil {
		next, ok := decodeByWords(slices.Index(formNames, found[1]), text)
		return take(next, ok, imageByWords(next), "no picture")
	}
	switch line {
	case "sniff":
		return "it is " + formNames[sniffByWords(text)], m, text
	case "flip":
		return "ok", flipByWords(m), text
	case "turn":
		return "ok", turnByWords(m), text
	case "rgb":
		next, ok := rgbByWords(m)
		return take(next, ok, "ok", "no colours")
	case "pal":
		if !okByWords(m) {
			return "no colours", m, text
		}
		next, ok := palByWords(m)
		return take(next, ok, "ok", "no colours")
	}
	return "what", m, text
}

// sessionByWords is what Session must tell.
func sessionByWords(lines []string) string {
	var m impl.Image
	text, out := "", ""
	for i, line := range lines {
		if i == 100 {
			break
		}
		answer := ""
		answer, m, text = lineByWords(m, text, line)
		out += answer + "\n"
	}
	return out
}

// someLine is a line of a session, of all kinds.
func someLine(r *rand.Rand, all []impl.Image) string {
	form := formNames[1+r.Intn(5)]
	switch r.Intn(14) {
	case 0, 1, 2:
		return "image " + impl.ImageWrite(all[r.Intn(len(all))])
	case 3, 4, 5:
		return fmt.Sprintf("put %s %d", form, r.Intn(3))
	case 6:
		return fmt.Sprintf("put png %d", r.Intn(33)-1)
	case 7, 8, 9:
		return "get " + form
	case 10:
		return []string{"flip", "turn", "sniff"}[r.Intn(3)]
	case 11, 12:
		return []string{"rgb", "pal", "sniff"}[r.Intn(3)]
	}
	return wrongLines[r.Intn(len(wrongLines))]
}

// wrongLines are such as say nothing, each near to one that does.
var wrongLines = []string{
	"", " ", "what", "x", "\n", "\x00",
	"image", "Image 1 1 1 1:: 0", " image 1 1 1 1:: 0", "images 1 1 1 1:: 0", "image\t1 1 1 1:: 0", "image:1 1 1 1:: 0", "1 1 1 1:: 0",
	"put", "put ", "put png", "put png ", "put  png 0", "put png  0", " put png 0", "put png 0 ", "put png 0 0", "put png 0\n", "put png\t0", "put 0", "put 1 0", "put 0 png",
	"put png 00", "put png 01", "put png 026", "put png +1", "put png -0", "put png -01", "put png --1", "put png -", "put png x", "put png 1x", "put png 0x1", "put png 1e1", "put png 1.0", "put png 1_0",
	"put PNG 0", "put Png 0", "put jpg 0", "put jpeg 0", "put pn 0", "put pngs 0", "put tif 0", "put  0", "puts png 0", "Put png 0", "put png,0", "put tga\x000",
	"get", "get ", "get  png", " get png", "get png ", "get png 0", "get PNG", "get jpg", "get pn", "get pngs", "get 1", "get 0", "gets png", "Get png", "get png\n", "get\tpng", "getpng",
	"sniff ", " sniff", "sniff png", "Sniff", "sniffs", "sniff\n", "flip ", " flip", "flips", "Flip", "flip 1", "turn ", " turn", "turned", "Turn", "turn 2", "rgb ", " rgb", "RGB", "rgba", "rgb 24", "pal ", " pal", "Pal", "pals", "pal 8", "gray",
	"ok", "no way", "it is png", "ways", "rep png", "convert png gif 0", "exit",
}
