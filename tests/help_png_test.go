package tests

import (
	"encoding/binary"
	"hash/crc32"
	"math/rand"
	"regexp"
	"slices"
	"strconv"
	"strings"
	"testing"
	"unsafe"

	"loop.example/intarsia/impl"
)

const pngBegin = "\x89PNG\x0d\x0a\x1a\x0a"

// weave is, of the points of each square of eight by eight, in which part they stand.
var weave = [8]string{
	"16462646",
	"77777777",
	"56565656",
	"77777777",
	"36463646",
	"77777777",
	"56565656",
	"77777777",
}

// place is a point of a picture: how far to the right, and how far down.
type place [2]int

// partRows is the places of each row of each part, such as have none left out.
func partRows(wide int, high int, woven bool) [][][]place {
	var parts [][][]place
	for part := '1'; part <= '7'; part++ {
		var rows [][]place
		for y := range high {
			var row []place
			for x := range wide {
				if !woven && part == '1' || woven && rune(weave[y%8][x%8]) == part {
					row = append(row, place{x, y})
				}
			}
			if len(row) > 0 {
				rows = append(rows, row)
			}
		}
		if len(rows) > 0 {
			parts = append(parts, rows)
		}
	}
	return parts
}

// filterByWords takes away what a kind says, or puts it back.
func filterByWords(kind int, row string, above string, step int, back bool) string {
	whole := make([]int, len(row))
	out := ""
	at := func(i int) int {
		if i < 0 {
			return 0
		}
		return whole[i]
	}
	up := func(i int) int {
		if i < 0 || above == "" {
			return 0
		}
		return int(above[i])
	}
	if !back {
		for i := range len(row) {
			whole[i] = int(row[i])
		}
	}
	for i := range len(row) {
		a, b, c := at(i-step), up(i), up(i-step)
		guess := []int{0, a, b, (a + b) / 2, 0}[kind]
		if kind == 4 {
			list := []int{a, b, c}
			far := func(n int) int { return max(n-(a+b-c), (a+b-c)-n) }
			guess = slices.MinFunc(list, func(m, n int) int { return far(m) - far(n) })
		}
		if back {
			whole[i] = (int(row[i]) + guess) % 256
			out += string([]byte{byte(whole[i])})
		} else {
			out += string([]byte{byte((whole[i] + 256 - guess) % 256)})
		}
	}
	return out
}

// chunkByWords is a piece as it is written, whatever its name.
func chunkByWords(name string, body string) string {
	out := binary.BigEndian.AppendUint32(nil, uint32(len(body)))
	out = append(out, name+body...)
	return string(binary.BigEndian.AppendUint32(out, crc32.ChecksumIEEE([]byte(name+body))))
}

// pieces is a text of pieces, whatever their names, and however many.
func pieces(list ...impl.Chunk) string {
	out := pngBegin
	for _, c := range list {
		out += chunkByWords(c.Name, c.Body)
	}
	return out
}

var fourLetters = regexp.MustCompile(`\A[A-Za-z]{4}\z`)

// chunksByWords is what ChunksPut must tell.
func chunksByWords(list []impl.Chunk) string {
	size := len(pngBegin)
	for _, c := range list {
		size += 12 + len(c.Body)
		if size > 9000 || !fourLetters.MatchString(c.Name) {
			return ""
		}
	}
	return pieces(list...)
}

// chunksGetByWords is what ChunksGet must tell.
func chunksGetByWords(text string) ([]impl.Chunk, bool) {
	rest, ok := strings.CutPrefix(text, pngBegin)
	if !ok || len(text) > 9000 {
		return nil, false
	}
	var list []impl.Chunk
	for rest != "" {
		if len(rest) < 12 {
			return nil, false
		}
		size := uint64(binary.BigEndian.Uint32([]byte(rest)))
		if size+12 > uint64(len(rest)) {
			return nil, false
		}
		c := impl.Chunk{Name: rest[4:8], Body: rest[8 : 8+size]}
		if !fourLetters.MatchString(c.Name) || !strings.HasPrefix(rest, chunkByWords(c.Name, c.Body)) {
			return nil, false
		}
		list = append(list, c)
		rest = rest[12+size:]
	}
	return list, true
}

// pngHeads is what each kind tells: bits of a part of a point, and a number.
var pngHeads = map[[2]int][2]int{
	{1, 1}: {1, 0}, {1, 2}: {2, 0}, {1, 4}: {4, 0}, {1, 8}: {8, 0},
	{2, 24}: {8, 2},
	{4, 1}:  {1, 3}, {4, 2}: {2, 3}, {4, 4}: {4, 3}, {4, 8}: {8, 3},
	{3, 32}: {8, 6},
}

// headByWords is the bytes of IHDR.
func headByWords(wide int, high int, tail ...int) string {
	out := binary.BigEndian.AppendUint32(nil, uint32(wide))
	out = binary.BigEndian.AppendUint32(out, uint32(high))
	for _, b := range tail {
		out = append(out, byte(b))
	}
	return string(out)
}

// pictureHead is the bytes of IHDR of a picture.
func pictureHead(m impl.Image, woven bool) string {
	head := pngHeads[[2]int{m.Kind, m.Depth}]
	if woven {
		return headByWords(m.Wide, m.High, head[0], head[1], 0, 0, 1)
	}
	return headByWords(m.Wide, m.High, head[0], head[1], 0, 0, 0)
}

// colorsByWords is the bytes of PLTE.
func colorsByWords(colors []int) string {
	var out []byte
	for _, c := range colors {
		out = append(out, byte(c/65536), byte(c/256), byte(c))
	}
	return string(out)
}

// rowsByWords is all rows of a picture, each by the filter that is told for it.
func rowsByWords(m impl.Image, woven bool, filter func(row int) int) string {
	out, n := "", 0
	for _, rows := range partRows(m.Wide, m.High, woven) {
		above := ""
		for _, places := range rows {
			var points []int
			for _, p := range places {
				points = append(points, m.Pix[p[1]*m.Wide+p[0]])
			}
			row, kind := rowByWords(points, m.Depth), filter(n)
			out += string([]byte{byte(kind)}) + filterByWords(kind, row, above, max(1, m.Depth/8), false)
			above = row
			n++
		}
	}
	return out
}

// always is a filter for all rows.
func always(kind int) func(int) int {
	return func(int) int { return kind }
}

// pictureChunks is the pieces of a picture, with what is packed as it is told.
func pictureChunks(m impl.Image, woven bool, packed string) []impl.Chunk {
	list := []impl.Chunk{{Name: "IHDR", Body: pictureHead(m, woven)}}
	if m.Kind == impl.KindPal {
		list = append(list, impl.Chunk{Name: "PLTE", Body: colorsByWords(m.Colors)})
	}
	return append(list, impl.Chunk{Name: "IDAT", Body: packed}, impl.Chunk{Name: "IEND"})
}

// pngByWords is what PngPut must tell of a picture that is ok.
func pngByWords(m impl.Image, filter int, woven bool, pack int) string {
	return pieces(pictureChunks(m, woven, impl.ZlibPut(rowsByWords(m, woven, always(filter)), pack))...)
}

// pointsByWords reads all rows of a picture of a size and a depth; false if they are not so.
func pointsByWords(data string, wide int, high int, depth int, woven bool) ([]int, bool) {
	pix := make([]int, wide*high)
	for _, rows := range partRows(wide, high, woven) {
		above := ""
		for _, places := range rows {
			size := 1 + (len(places)*depth+7)/8
			if len(data) < size || data[0] > 4 {
				return nil, false
			}
			above = filterByWords(int(data[0]), data[1:size], above, max(1, depth/8), true)
			bits := bitsOf(above, true)
			for i, p := range places {
				n, _ := strconv.ParseInt(bits[i*depth:(i+1)*depth], 2, 64)
				pix[p[1]*wide+p[0]] = int(n)
			}
			data = data[size:]
		}
	}
	return pix, data == ""
}

// orderOfPieces is the order of a picture's pieces, as letters: p for PLTE, d for IDAT, s for such as say nothing.
func orderOfPieces(list []impl.Chunk) string {
	out := ""
	for _, c := range list {
		switch {
		case c.Name == "IHDR":
			out += "h"
		case c.Name == "PLTE":
			out += "p"
		case c.Name == "IDAT":
			out += "d"
		case c.Name == "IEND" && c.Body == "":
			out += "e"
		case c.Name[0] >= 'a' && c.Name != "tRNS":
			out += "s"
		default:
			out += "x"
		}
	}
	return out
}

var (
	listOrder  = regexp.MustCompile(`\Ahs*ps*d+s*e\z`)
	otherOrder = regexp.MustCompile(`\Ahs*d+s*e\z`)
)

// pngGetByWords is what PngGet must tell.
func pngGetByWords(text string) (impl.Image, bool) {
	list, ok := chunksGetByWords(text)
	if !ok || len(list) == 0 || len(list[0].Body) != 13 {
		return impl.Image{}, false
	}
	head := list[0].Body
	m := impl.Image{Wide: int(binary.BigEndian.Uint32([]byte(head))), High: int(binary.BigEndian.Uint32([]byte(head[4:])))}
	for kd, told := range pngHeads {
		if told == [2]int{int(head[8]), int(head[9])} {
			m.Kind, m.Depth = kd[0], kd[1]
		}
	}
	order := orderOfPieces(list)
	if m.Kind == 0 || head[10] != 0 || head[11] != 0 || head[12] > 1 || m.Wide < 1 || m.Wide > 20 || m.High < 1 || m.High > 20 {
		return impl.Image{}, false
	}
	if m.Kind == impl.KindPal && !listOrder.MatchString(order) || m.Kind != impl.KindPal && !otherOrder.MatchString(order) {
		return impl.Image{}, false
	}
	packed := ""
	for _, c := range list {
		switch c.Name {
		case "PLTE":
			if len(c.Body)%3 != 0 {
				return impl.Image{}, false
			}
			for i := 0; i < len(c.Body); i += 3 {
				m.Colors = append(m.Colors, int(c.Body[i])<<16|int(c.Body[i+1])<<8|int(c.Body[i+2]))
			}
		case "IDAT":
			packed += c.Body
		}
	}
	data, code := impl.ZlibGet(packed, impl.OutMax)
	if code != impl.GetDone {
		return impl.Image{}, false
	}
	m.Pix, ok = pointsByWords(data, m.Wide, m.High, m.Depth, head[12] == 1)
	if !ok || !okByWords(m) {
		return impl.Image{}, false
	}
	return m, true
}

// checkPng holds what is read of a text against the words; it tells whether it is a picture.
func checkPng(t *testing.T, what string, text string) bool {
	t.Helper()
	want, wantOk := pngGetByWords(text)
	got, ok := impl.PngGet(text)
	if ok != wantOk || !samePicture(got, want) {
		t.Fatalf("%s: %x\n%v %v, not\n%v %v", what, text, got, ok, want, wantOk)
	}
	return ok
}

// checkPieces holds whether pieces make a picture against what is told.
func checkPieces(t *testing.T, what string, list []impl.Chunk, wantOk bool) {
	t.Helper()
	text := impl.ChunksPut(list)
	if text == "" {
		t.Fatalf("%s: %q cannot be written", what, list)
	}
	if ok := checkPng(t, what, text); ok != wantOk {
		t.Errorf("%s: %v", what, ok)
	}
}

// pngWay is a way to write a PNG.
type pngWay struct {
	filter int
	woven  bool
	pack   int
}

// pngWays are all of them.
func pngWays() []pngWay {
	var all []pngWay
	for filter := range 5 {
		for _, woven := range []bool{false, true} {
			for pack := range 3 {
				all = append(all, pngWay{filter, woven, pack})
			}
		}
	}
	return all
}

func (w pngWay) put(m impl.Image) string {
	return impl.PngPut(m, w.filter, w.woven, w.pack)
}

// insertAt is a list with some more at a place.
func insertAt(list []impl.Chunk, at int, more ...impl.Chunk) []impl.Chunk {
	return slices.Insert(slices.Clone(list), at, more...)
}

// withBody is a list in which one piece has other bytes.
func withBody(list []impl.Chunk, at int, body string) []impl.Chunk {
	list = slices.Clone(list)
	list[at].Body = body
	return list
}

// someName is a name of a piece, often one that says something.
func someName(r *rand.Rand) string {
	names := []string{"IHDR", "PLTE", "IDAT", "IEND", "tRNS", "tEXt", "iDAT", "abcd", "zZZZ", "IDAt", "tRNs", "ABCD", "Zzzz"}
	return names[r.Intn(len(names))]
}

// hurtPieces is pieces with something changed, left out, put in or put elsewhere; their sums are right.
func hurtPieces(r *rand.Rand, list []impl.Chunk) []impl.Chunk {
	list = slices.Clone(list)
	at, to := r.Intn(len(list)), r.Intn(len(list))
	switch r.Intn(9) {
	case 0:
		return slices.Delete(list, at, at+1)
	case 1:
		return slices.Insert(list, to, list[at])
	case 2:
		list[at], list[to] = list[to], list[at]
	case 3:
		list[at].Name = someName(r)
	case 4:
		return slices.Insert(list, at, impl.Chunk{Name: someName(r), Body: someText(r, r.Intn(4))})
	case 5:
		cut := r.Intn(len(list[at].Body) + 1)
		more := impl.Chunk{Name: list[at].Name, Body: list[at].Body[cut:]}
		list[at].Body = list[at].Body[:cut]
		return slices.Insert(list, at+1, more)
	case 6:
		list[0].Body = hurt(r, list[0].Body)
	case 7:
		list[at].Body = hurt(r, list[at].Body)
	}
	return list
}

// sharesText says whether a text lies in the memory of another one.
func sharesText(part string, whole string) bool {
	if part == "" || whole == "" {
		return false
	}
	from, at := uintptr(unsafe.Pointer(unsafe.StringData(whole))), uintptr(unsafe.Pointer(unsafe.StringData(part)))
	return at+uintptr(len(part)) > from && at < from+uintptr(len(whole))
}
