package tests

import (
	"math/rand"
	"slices"
	"strings"
	"testing"

	"loop.example/intarsia/impl"
)

// blocksOf is a text in blocks of these sizes, one behind the other and again from the first, with the end behind.
func blocksOf(text string, sizes ...int) string {
	out := ""
	for i := 0; text != ""; i++ {
		size := min(len(text), sizes[i%len(sizes)])
		out += lowBytes(size, 1) + text[:size]
		text = text[size:]
	}
	return out + "\x00"
}

// blocksByWords is what BlocksPut must tell.
func blocksByWords(text string) string {
	if len(text) > 5000 {
		return ""
	}
	return blocksOf(text, 255)
}

// blocksGetByWords is what BlocksGet must tell.
func blocksGetByWords(text string, at int) (string, int, bool) {
	if len(text) > 9000 || at < 0 {
		return "", 0, false
	}
	out := ""
	for at < len(text) {
		size := int(text[at])
		if size == 0 {
			return out, at + 1, true
		}
		if at+1+size > len(text) {
			break
		}
		out += text[at+1 : at+1+size]
		at += 1 + size
	}
	return "", 0, false
}

// wovenByWords is what WovenRows must tell of a height that is so.
func wovenByWords(high int) []int {
	var rows []int
	for _, rest := range []struct{ of, is int }{{8, 0}, {8, 4}, {4, 2}, {2, 1}} {
		for row := range high {
			if row%rest.of == rest.is {
				rows = append(rows, row)
			}
		}
	}
	return rows
}

// gifParts is a GIF by its parts, each of which can be another one.
type gifParts struct {
	sign   string
	size   string
	flags  int
	two    string
	colors string
	ahead  string
	comma  string
	corner string
	again  string
	own    int
	list   string
	bits   int
	blocks string
	behind string
	end    string
}

func (g gifParts) text() string {
	head := g.sign + g.size + lowBytes(g.flags, 1) + g.two + g.colors
	frame := g.comma + g.corner + g.again + lowBytes(g.own, 1) + g.list + lowBytes(g.bits, 1) + g.blocks
	return head + g.ahead + frame + g.behind + g.end
}

// gifPoints is points as LZW of so many bits, in blocks.
func gifPoints(points []int, bits int) string {
	way := lzwWay{bits, false}
	return blocksOf(lzwNumbers(way, lzwPutByWords(asText(points), way)...), 255)
}

// gifOf is the parts of a GIF that has such a picture, with the list of colours of the whole.
func gifOf(m impl.Image, woven bool) gifParts {
	size := lowBytes(m.Wide, 2) + lowBytes(m.High, 2)
	points, own := m.Pix, 0
	if woven {
		points, own = nil, 64
		for _, row := range wovenByWords(m.High) {
			points = append(points, m.Pix[row*m.Wide:(row+1)*m.Wide]...)
		}
	}
	bits := map[int]int{1: 2, 2: 2, 4: 4, 8: 8}[m.Depth]
	flags := map[int]int{1: 0x80, 2: 0x91, 4: 0xb3, 8: 0xf7}[m.Depth]
	return gifParts{
		sign: "GIF89a", size: size, flags: flags, two: "\x00\x00", colors: colorsByWords(m.Colors),
		comma: ",", corner: "\x00\x00\x00\x00", again: size, own: own, bits: bits, blocks: gifPoints(points, bits), end: ";",
	}
}

// gifCan says whether a GIF can hold a picture.
func gifCan(m impl.Image) bool {
	return okByWords(m) && m.Kind == impl.KindPal && len(m.Colors) == map[int]int{1: 2, 2: 4, 4: 16, 8: 256}[m.Depth]
}

// gifByWords is what GifPut must tell.
func gifByWords(m impl.Image, woven bool) string {
	if !gifCan(m) {
		return ""
	}
	return gifOf(m, woven).text()
}

// gifRest is what is left of a GIF when some of it was read; ok is false once something was not so.
type gifRest struct {
	text string
	ok   bool
}

// cut is the next so many bytes.
func (g *gifRest) cut(size int) string {
	if !g.ok || len(g.text) < size {
		g.ok, g.text = false, ""
		return strings.Repeat("\x00", size)
	}
	piece := g.text[:size]
	g.text = g.text[size:]
	return piece
}

func (g *gifRest) number(size int) int {
	n := 0
	for i, b := range []byte(g.cut(size)) {
		n += int(b) << (8 * i)
	}
	return n
}

// blocks is the bytes of the blocks that come.
func (g *gifRest) blocks() string {
	body, behind, ok := blocksGetByWords(g.text, 0)
	if !ok {
		g.ok, g.text = false, ""
		return ""
	}
	g.cut(behind)
	return body
}

// list is the colours that flags tell of.
func (g *gifRest) list(flags int) []int {
	if flags < 128 {
		return nil
	}
	var colors []int
	for range 1 << (flags%8 + 1) {
		c := g.cut(3)
		colors = append(colors, int(c[0])<<16|int(c[1])<<8|int(c[2]))
	}
	return colors
}

// beside goes past what is said beside.
func (g *gifRest) beside() {
	for strings.HasPrefix(g.text, "!") {
		label := g.cut(2)[1]
		said := g.blocks()
		if label == 249 && (len(said) != 4 || said[0]%2 == 1) {
			g.ok = false
		}
	}
}

// gifGetByWords is what GifGet must tell.
func gifGetByWords(text string) (impl.Image, bool) {
	g := &gifRest{text: text, ok: len(text) <= 9000}
	sign := g.cut(6)
	m := impl.Image{Kind: impl.KindPal, Wide: g.number(2), High: g.number(2)}
	flags := g.number(1)
	g.cut(2)
	m.Colors = g.list(flags)
	g.beside()
	frame := g.cut(5)
	wide, high := g.number(2), g.number(2)
	own := g.number(1)
	if list := g.list(own); len(list) > 0 {
		flags, m.Colors = own, list
	}
	bits := g.number(1)
	packed := g.blocks()
	g.beside()
	end := g.cut(1)
	if !g.ok || sign != "GIF87a" && sign != "GIF89a" || frame != ",\x00\x00\x00\x00" || wide != m.Wide || high != m.High || end != ";" || g.text != "" {
		return impl.Image{}, false
	}
	points, _, code := lzwGetByWords(packed, lzwWay{bits, false}, min(wide*high, 5000))
	if code != impl.GetDone || len(points) != wide*high || flags < 128 {
		return impl.Image{}, false
	}
	m.Depth = []int{1, 2, 4, 4, 8, 8, 8, 8}[flags%8]
	rows := make([]int, high)
	for i := range rows {
		rows[i] = i
	}
	if own/64%2 == 1 {
		rows = wovenByWords(high)
	}
	m.Pix = make([]int, wide*high)
	for i := range len(points) {
		m.Pix[rows[i/wide]*wide+i%wide] = int(points[i])
	}
	if !okByWords(m) {
		return impl.Image{}, false
	}
	return m, true
}

// checkGif holds what is read of a text against the words; it tells whether it is a picture.
func checkGif(t *testing.T, what string, text string) bool {
	t.Helper()
	want, wantOk := gifGetByWords(text)
	got, ok := impl.GifGet(text)
	if ok != wantOk || !samePicture(got, want) {
		t.Fatalf("%s: %x\n%v %v, not\n%v %v", what, text, got, ok, want, wantOk)
	}
	return ok
}

// checkGifParts holds whether parts make a picture against what is told.
func checkGifParts(t *testing.T, what string, g gifParts, wantOk bool) {
	t.Helper()
	if ok := checkGif(t, what, g.text()); ok != wantOk {
		t.Errorf("%s: %v", what, ok)
	}
}

// said is something said beside a picture.
func said(label int, blocks string) string {
	return "!" + lowBytes(label, 1) + blocks
}

// fullList is a picture of a depth and a size with as many colours as it can have.
func fullList(r *rand.Rand, depth int, wide int, high int) impl.Image {
	return somePicture(r, impl.KindPal, depth, wide, high, 1<<depth)
}

// fullLists are pictures that a GIF can hold, of each depth, of all edges of sizes.
func fullLists() []impl.Image {
	r := dice(101)
	var all []impl.Image
	for _, m := range pictures() {
		if gifCan(m) {
			all = append(all, m)
		}
	}
	for _, depth := range []int{1, 2, 4, 8} {
		all = append(all, fullList(r, depth, 20, 20), fullList(r, depth, 1, 20), fullList(r, depth, 20, 1))
		for range 6 {
			all = append(all, fullList(r, depth, 1+r.Intn(20), 1+r.Intn(20)))
		}
		one := fullList(r, depth, 20, 20)
		one.Pix = same(1<<depth-1, 400)
		all = append(all, one)
	}
	return all
}

// someBeside is what may be said beside a picture, and now and then what may not.
func someBeside(r *rand.Rand) string {
	out := ""
	for range r.Intn(4) {
		text := someText(r, r.Intn(1<<r.Intn(10)))
		label := r.Intn(256)
		if r.Intn(2) == 0 {
			label = 249
			text = lowBytes(2*r.Intn(128), 1) + someText(r, 3)
			if r.Intn(8) == 0 {
				text = someText(r, r.Intn(6))
			}
		}
		out += said(label, blocksOf(text, 1+r.Intn(255), 1+r.Intn(255)))
	}
	return out
}

// someGif is the parts of a GIF that can be read, more often than not.
func someGif(r *rand.Rand) gifParts {
	m := fullList(r, []int{1, 2, 4, 8}[r.Intn(4)], 1+r.Intn(8), 1+r.Intn(20))
	g := gifOf(m, r.Intn(2) == 0)
	if r.Intn(2) == 0 {
		g.sign = "GIF87a"
	}
	g.two = someText(r, 2)
	own := r.Intn(8)
	list := someText(r, 3<<(own+1))
	switch r.Intn(5) {
	case 0:
		g.own |= 128 | own
		g.list = list
	case 1:
		g.own |= 128 | g.flags%8
		g.list, g.colors, g.flags = g.colors, "", g.flags&127
	case 2:
		g.flags = 128 | own
		g.colors = list
	}
	g.own |= r.Intn(8) << 3
	g.flags |= r.Intn(16) << 3 & 0x78
	g.ahead, g.behind = someBeside(r), someBeside(r)
	if r.Intn(4) == 0 {
		g.bits = 2 + r.Intn(7)
		points := someNumbersBelow(r, m.Wide*m.High+r.Intn(3)-1, 1<<min(g.bits, m.Depth))
		g.blocks = gifPoints(points, g.bits)
	}
	return g
}

// hurtGif is parts of which one is another one.
func hurtGif(r *rand.Rand, g gifParts) gifParts {
	parts := []*string{&g.sign, &g.size, &g.two, &g.colors, &g.ahead, &g.comma, &g.corner, &g.again, &g.list, &g.blocks, &g.behind, &g.end}
	switch r.Intn(6) {
	case 0:
		g.flags = r.Intn(256)
	case 1:
		g.own = r.Intn(256)
	case 2:
		g.bits = r.Intn(11)
	default:
		part := parts[r.Intn(len(parts))]
		*part = hurt(r, *part)
	}
	return g
}

// isOrdered says whether a list is ascending.
func isOrdered(list []int) bool {
	return slices.IsSorted(list) && len(slices.Compact(slices.Clone(list))) == len(list)
}
