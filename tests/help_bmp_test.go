package tests

import (
	"encoding/binary"
	"math/rand"
	"slices"
	"strings"
	"testing"

	"loop.example/intarsia/impl"
)

// bmpParts is a BMP by its fields, each of which can be another one; size, begin and bytes go with the rest at first.
type bmpParts struct {
	sign    string
	size    int
	six     int
	begin   int
	info    int
	wide    int
	high    int
	planes  int
	depth   int
	packing int
	bytes   int
	across  int
	up      int
	count   int
	matter  int
	colors  string
	data    string
}

// fits is parts with the sizes that all of them make.
func (b bmpParts) fits() bmpParts {
	b.size = 54 + len(b.colors) + len(b.data)
	b.begin = 54 + len(b.colors)
	b.bytes = len(b.data)
	return b
}

func (b bmpParts) text() string {
	out := []byte(b.sign)
	four := func(list ...int) {
		for _, n := range list {
			out = binary.LittleEndian.AppendUint32(out, uint32(n))
		}
	}
	two := func(list ...int) {
		for _, n := range list {
			out = binary.LittleEndian.AppendUint16(out, uint16(n))
		}
	}
	four(b.size, b.six, b.begin, b.info, b.wide, b.high)
	two(b.planes, b.depth)
	four(b.packing, b.bytes, b.across, b.up, b.count, b.matter)
	return string(out) + b.colors + b.data
}

// rowsFromBelow is the rows of a picture, the lowest first.
func rowsFromBelow(m impl.Image) [][]int {
	var rows [][]int
	for y := m.High - 1; y >= 0; y-- {
		rows = append(rows, m.Pix[y*m.Wide:(y+1)*m.Wide])
	}
	return rows
}

// bmpRows is rows as a BMP without runs has them, filled up by a byte.
func bmpRows(rows [][]int, depth int, fill string) string {
	out := ""
	for _, row := range rows {
		for _, point := range row {
			out += lowBytes(point, depth/8)
		}
		for len(out)%4 != 0 {
			out += fill
		}
	}
	return out
}

// bmpOf is the parts of a BMP of a picture.
func bmpOf(m impl.Image, runs bool) bmpParts {
	b := bmpParts{sign: "BM", info: 40, wide: m.Wide, high: m.High, planes: 1, depth: m.Depth, count: len(m.Colors)}
	for _, c := range m.Colors {
		b.colors += lowBytes(c, 4)
	}
	if runs {
		b.packing, b.data = 1, rleByWords(rowsFromBelow(m))
	} else {
		b.data = bmpRows(rowsFromBelow(m), m.Depth, "\x00")
	}
	return b.fits()
}

// bmpCan says whether a BMP can hold a picture.
func bmpCan(m impl.Image, runs bool) bool {
	return okByWords(m) && (m.Kind == impl.KindRgb && !runs || m.Kind == impl.KindPal && m.Depth == 8)
}

// bmpByWords is what BmpPut must tell.
func bmpByWords(m impl.Image, runs bool) string {
	if !bmpCan(m, runs) {
		return ""
	}
	return bmpOf(m, runs).text()
}

// bmpGetByWords is what BmpGet must tell: the picture whose BMP is just this text, when all that may be anything is made nought in both.
func bmpGetByWords(text string) (impl.Image, bool) {
	if len(text) < 54 || len(text) > 9000 {
		return impl.Image{}, false
	}
	at := func(place int) int { return int(binary.LittleEndian.Uint32([]byte(text[place:]))) }
	m := impl.Image{Wide: at(18), High: at(22), Depth: int(text[28]), Kind: impl.KindRgb}
	if m.Depth == 8 {
		m.Kind = impl.KindPal
	}
	count, runs := at(46), at(30) == 1
	if count > 256 || m.Wide < 1 || m.Wide > 20 || m.High < 1 || m.High > 20 || len(text) < 54+4*count {
		return impl.Image{}, false
	}
	for i := range count {
		m.Colors = append(m.Colors, at(54+4*i)%16777216)
	}
	data := text[54+4*count:]
	row := (m.Wide*m.Depth/8 + 3) / 4 * 4
	rows, ok := rleGetByWords(data, m.Wide, m.High)
	if !runs {
		ok = len(data) == row*m.High && m.Depth%8 == 0
		rows = nil
		for y := 0; ok && y < m.High; y++ {
			var points []int
			for x := range m.Wide {
				points = append(points, at4(data, y*row+x*m.Depth/8, m.Depth/8))
			}
			rows = append(rows, points)
		}
	}
	if !ok {
		return impl.Image{}, false
	}
	slices.Reverse(rows)
	m.Pix = slices.Concat(rows...)
	if !bmpCan(m, runs) {
		return impl.Image{}, false
	}
	want := bmpOf(m, runs)
	want.data = data
	if bmpBare(text, count) != bmpBare(want.fits().text(), count) {
		return impl.Image{}, false
	}
	return m, true
}

// at4 is a number of so many bytes, the lowest first.
func at4(text string, at int, size int) int {
	n := 0
	for i := range size {
		n += int(text[at+i]) << (8 * i)
	}
	return n
}

// bmpBare is the head and the colours with noughts where there may be anything.
func bmpBare(text string, count int) string {
	b := []byte(text[:54+4*count])
	for _, at := range []int{6, 38, 42, 50} {
		copy(b[at:], "\x00\x00\x00\x00")
	}
	for i := range count {
		b[54+4*i+3] = 0
	}
	return string(b)
}

// checkBmp holds what is read of a text against the words; it tells whether it is a picture.
func checkBmp(t *testing.T, what string, text string) bool {
	t.Helper()
	want, wantOk := bmpGetByWords(text)
	got, ok := impl.BmpGet(text)
	if ok != wantOk || !samePicture(got, want) {
		t.Fatalf("%s: %x\n%v %v, not\n%v %v", what, text, got, ok, want, wantOk)
	}
	return ok
}

// checkBmpParts holds whether parts make a picture against what is told.
func checkBmpParts(t *testing.T, what string, b bmpParts, wantOk bool) {
	t.Helper()
	if ok := checkBmp(t, what, b.text()); ok != wantOk {
		t.Errorf("%s: %v", what, ok)
	}
}

// tgaParts is a TGA by its fields, each of which can be another one.
type tgaParts struct {
	size   int
	listed int
	sort   int
	first  int
	count  int
	bits   int
	corner int
	wide   int
	high   int
	depth  int
	last   int
	ahead  string
	colors string
	data   string
}

func (p tgaParts) text() string {
	head := lowBytes(p.size, 1) + lowBytes(p.listed, 1) + lowBytes(p.sort, 1) + lowBytes(p.first, 2) + lowBytes(p.count, 2) + lowBytes(p.bits, 1)
	head += lowBytes(p.corner, 4) + lowBytes(p.wide, 2) + lowBytes(p.high, 2) + lowBytes(p.depth, 1) + lowBytes(p.last, 1)
	return head + p.ahead + p.colors + p.data
}

// tgaSorts is the number by which a TGA tells a kind with a depth.
var tgaSorts = map[[2]int]int{{impl.KindPal, 8}: 1, {impl.KindRgb, 24}: 2, {impl.KindRgba, 32}: 2, {impl.KindGray, 8}: 3}

// tgaCan says whether a TGA can hold a picture.
func tgaCan(m impl.Image) bool {
	return okByWords(m) && tgaSorts[[2]int{m.Kind, m.Depth}] != 0
}

// tgaNumbers is points as a TGA tells them.
func tgaNumbers(m impl.Image) []int {
	points := slices.Clone(m.Pix)
	if m.Kind == impl.KindRgba {
		for i, p := range points {
			points[i] = 16777216*(p%256) + p/256
		}
	}
	return points
}

// tgaPlain is numbers of so many bytes without runs.
func tgaPlain(list []int, size int) string {
	out := ""
	for _, n := range list {
		out += lowBytes(n, size)
	}
	return out
}

// tgaOf is the parts of a TGA of a picture.
func tgaOf(m impl.Image, runs bool) tgaParts {
	p := tgaParts{sort: tgaSorts[[2]int{m.Kind, m.Depth}], count: len(m.Colors), wide: m.Wide, high: m.High, depth: m.Depth, last: 32}
	if m.Kind == impl.KindRgba {
		p.last = 40
	}
	if len(m.Colors) > 0 {
		p.listed, p.bits = 1, 24
		p.colors = tgaPlain(m.Colors, 3)
	}
	if runs {
		p.sort += 8
		p.data = runByWords(tgaNumbers(m), m.Depth/8)
	} else {
		p.data = tgaPlain(tgaNumbers(m), m.Depth/8)
	}
	return p
}

// tgaByWords is what TgaPut must tell.
func tgaByWords(m impl.Image, runs bool) string {
	if !tgaCan(m) {
		return ""
	}
	return tgaOf(m, runs).text()
}

// tgaGetByWords is what TgaGet must tell: the picture whose head is just this one, but for its first byte and 32 in its last.
func tgaGetByWords(text string) (impl.Image, bool) {
	if len(text) < 18 {
		return impl.Image{}, false
	}
	m := impl.Image{Wide: at4(text, 12, 2), High: at4(text, 14, 2), Depth: int(text[16])}
	runs := text[2] > 8
	for kd, sort := range tgaSorts {
		if kd[1] == m.Depth && sort == int(text[2])&7 {
			m.Kind = kd[0]
		}
	}
	count := at4(text, 5, 2)
	begin := 18 + int(text[0]) + 3*count
	if m.Kind == 0 || m.Wide < 1 || m.Wide > 20 || m.High < 1 || m.High > 20 || len(text) < begin || count > 256 {
		return impl.Image{}, false
	}
	for i := range count {
		m.Colors = append(m.Colors, at4(text, 18+int(text[0])+3*i, 3))
	}
	size := m.Depth / 8
	numbers, behind, ok := runGetByWords(text, begin, size, m.Wide*m.High)
	if !runs {
		behind, ok = begin+m.Wide*m.High*size, true
		numbers = nil
		for at := begin; at < behind && behind == len(text); at += size {
			numbers = append(numbers, at4(text, at, size))
		}
	}
	if !ok || behind != len(text) {
		return impl.Image{}, false
	}
	for _, n := range numbers {
		if m.Kind == impl.KindRgba {
			n = n%16777216*256 + n/16777216
		}
		m.Pix = append(m.Pix, n)
	}
	if !tgaCan(m) {
		return impl.Image{}, false
	}
	want := tgaOf(m, runs)
	upright := want.last == int(text[17])
	if text[1:17] != want.text()[1:17] || !upright && want.last-32 != int(text[17]) {
		return impl.Image{}, false
	}
	if !upright {
		rows := slices.Collect(slices.Chunk(m.Pix, m.Wide))
		slices.Reverse(rows)
		m.Pix = slices.Concat(rows...)
	}
	return m, true
}

// checkTga holds what is read of a text against the words; it tells whether it is a picture.
func checkTga(t *testing.T, what string, text string) bool {
	t.Helper()
	want, wantOk := tgaGetByWords(text)
	got, ok := impl.TgaGet(text)
	if ok != wantOk || !samePicture(got, want) {
		t.Fatalf("%s: %x\n%v %v, not\n%v %v", what, text, got, ok, want, wantOk)
	}
	return ok
}

// checkTgaParts holds whether parts make a picture against what is told.
func checkTgaParts(t *testing.T, what string, p tgaParts, wantOk bool) {
	t.Helper()
	if ok := checkTga(t, what, p.text()); ok != wantOk {
		t.Errorf("%s: %v", what, ok)
	}
}

// somePackets is numbers of so many bytes in packets of any kind, that may go beyond a row.
func somePackets(r *rand.Rand, list []int, size int) string {
	var out strings.Builder
	for len(list) > 0 {
		most := min(len(list), 128)
		n := 1 + r.Intn(most)
		if r.Intn(2) == 0 {
			n = 1 + r.Intn(min(sameFrom(list, 0), most))
			out.WriteString(lowBytes(127+n, 1) + lowBytes(list[0], size))
		} else {
			out.WriteString(lowBytes(n-1, 1) + tgaPlain(list[:n], size))
		}
		list = list[n:]
	}
	return out.String()
}

// runPicture is a picture with runs that may go from one row into the next.
func runPicture(r *rand.Rand, kind int, depth int, wide int, high int, colors int) impl.Image {
	m := somePicture(r, kind, depth, wide, high, colors)
	most := 1 << depth
	if kind == impl.KindPal {
		most = colors
	}
	m.Pix = runList(r, wide*high, most)
	return m
}

// bytePictures are pictures of the kinds that are written in whole bytes, with runs and without, of all edges of sizes.
func bytePictures() []impl.Image {
	r := dice(111)
	var all []impl.Image
	for _, m := range pictures() {
		if m.Depth >= 8 {
			all = append(all, m)
		}
	}
	for _, kd := range [][2]int{{impl.KindGray, 8}, {impl.KindRgb, 24}, {impl.KindRgba, 32}, {impl.KindPal, 8}} {
		for _, size := range [][2]int{{20, 20}, {1, 20}, {20, 1}, {13, 10}, {16, 8}, {16, 16}, {17, 3}} {
			for _, colors := range []int{1, 2, 256} {
				all = append(all, runPicture(r, kd[0], kd[1], size[0], size[1], colors))
			}
		}
	}
	return all
}
