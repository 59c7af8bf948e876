package tests

import (
	"math/rand"
	"slices"
	"testing"

	"loop.example/intarsia/impl"
)

// kindDepths are all kinds with each of their depths.
var kindDepths = [][2]int{{1, 1}, {1, 2}, {1, 4}, {1, 8}, {2, 24}, {3, 32}, {4, 1}, {4, 2}, {4, 4}, {4, 8}}

// tableDepths are the depths of the table.
var tableDepths = []int{1, 2, 4, 8, 24, 32}

// someNumbersBelow is so many numbers below most, the least and the greatest often among them.
func someNumbersBelow(r *rand.Rand, count int, most int) []int {
	list := make([]int, count)
	for i := range list {
		switch r.Intn(8) {
		case 0:
			list[i] = 0
		case 1:
			list[i] = most - 1
		default:
			list[i] = r.Intn(most)
		}
	}
	return list
}

// somePicture is a picture of a kind, a depth and a size, with so many colours, if it has any.
func somePicture(r *rand.Rand, kind int, depth int, wide int, high int, colors int) impl.Image {
	m := impl.Image{Kind: kind, Depth: depth, Wide: wide, High: high}
	most := 1 << depth
	if kind == impl.KindPal {
		m.Colors = someNumbersBelow(r, colors, 1<<24)
		most = colors
	}
	m.Pix = someNumbersBelow(r, wide*high, most)
	return m
}

// pictures are such as are ok, of each kind and depth, of all edges of sizes and lists of colours.
func pictures() []impl.Image {
	r := dice(81)
	var all []impl.Image
	for _, kd := range kindDepths {
		counts := []int{0}
		if kd[0] == impl.KindPal {
			counts = []int{1, 1 << kd[1] / 2, 1<<kd[1] - 1, 1 << kd[1]}
		}
		for _, colors := range counts {
			for _, size := range [][2]int{{1, 1}, {2, 1}, {1, 2}, {3, 2}, {1, 20}, {20, 1}, {20, 20}, {19, 7}, {7, 19}} {
				all = append(all, somePicture(r, kd[0], kd[1], size[0], size[1], max(1, colors)))
			}
			for range 6 {
				all = append(all, somePicture(r, kd[0], kd[1], 1+r.Intn(6), 1+r.Intn(6), max(1, colors)))
			}
		}
	}
	return append(all, solidRgba(r, 5, 4), fewColors(r, 20, 20, 256), fewColors(r, 20, 20, 257), fewColors(r, 20, 20, 400))
}

// solidRgba is a picture with how dense each point is, all of them being so.
func solidRgba(r *rand.Rand, wide int, high int) impl.Image {
	m := somePicture(r, impl.KindRgba, 32, wide, high, 0)
	for i := range m.Pix {
		m.Pix[i] |= 255
	}
	return m
}

// fewColors is a picture of red, green and blue with just so many colours.
func fewColors(r *rand.Rand, wide int, high int, count int) impl.Image {
	m := impl.Image{Kind: impl.KindRgb, Depth: 24, Wide: wide, High: high, Pix: make([]int, wide*high)}
	for i := range m.Pix {
		m.Pix[i] = 7919 * (i % count)
	}
	r.Shuffle(len(m.Pix), func(i, j int) { m.Pix[i], m.Pix[j] = m.Pix[j], m.Pix[i] })
	return m
}

// changedPicture is a copy with something else in it.
func changedPicture(m impl.Image, change func(m *impl.Image)) impl.Image {
	m.Colors, m.Pix = slices.Clone(m.Colors), slices.Clone(m.Pix)
	change(&m)
	return m
}

// noPictures are such as are not ok, each by one thing alone.
func noPictures() []impl.Image {
	r := dice(82)
	all := []impl.Image{{}}
	for _, kd := range kindDepths {
		colors := max(1, 1<<kd[1]/2)
		if kd[0] != impl.KindPal {
			colors = 0
		}
		m := somePicture(r, kd[0], kd[1], 4, 3, colors)
		add := func(change func(m *impl.Image)) { all = append(all, changedPicture(m, change)) }
		for _, n := range append([]int{0, 5, -1, 100}, extremes...) {
			add(func(m *impl.Image) { m.Kind = n })
		}
		for _, n := range append([]int{0, -1, -8, 3, 5, 6, 7, 9, 16, 25, 31, 33, 63, 64, 65}, extremes...) {
			add(func(m *impl.Image) { m.Depth = n })
		}
		for _, n := range append([]int{0, -1, -4, 2, 5, 21, 12}, extremes...) {
			add(func(m *impl.Image) { m.Wide = n })
			add(func(m *impl.Image) { m.High = n })
			add(func(m *impl.Image) { m.Wide, m.High = n, n })
		}
		add(func(m *impl.Image) { m.Wide, m.High = -4, -3 })
		add(func(m *impl.Image) { m.Wide, m.High, m.Pix = 0, 0, nil })
		add(func(m *impl.Image) { m.Wide, m.High, m.Pix = 0, 1, nil })
		add(func(m *impl.Image) { m.Wide, m.High, m.Pix = 1, 0, nil })
		add(func(m *impl.Image) { m.Wide, m.High, m.Pix = 21, 1, make([]int, 21) })
		add(func(m *impl.Image) { m.Wide, m.High, m.Pix = 1, 21, make([]int, 21) })
		add(func(m *impl.Image) { m.Pix = nil })
		add(func(m *impl.Image) { m.Pix = m.Pix[:11] })
		add(func(m *impl.Image) { m.Pix = append(m.Pix, 0) })
		most := 1 << kd[1]
		if kd[0] == impl.KindPal {
			most = len(m.Colors)
		}
		for _, n := range append([]int{-1, most, most + 1, most << 8}, extremes...) {
			if n < 0 || n >= most {
				add(func(m *impl.Image) { m.Pix[0] = n })
				add(func(m *impl.Image) { m.Pix[11] = n })
			}
		}
		if kd[0] != impl.KindPal {
			add(func(m *impl.Image) { m.Colors = []int{0} })
			continue
		}
		add(func(m *impl.Image) { m.Colors = nil })
		add(func(m *impl.Image) { m.Colors = make([]int, 1<<kd[1]+1) })
		for _, n := range append([]int{-1, 1 << 24, 1 << 32}, extremes...) {
			add(func(m *impl.Image) { m.Colors[0] = n })
			add(func(m *impl.Image) { m.Colors[len(m.Colors)-1] = n })
		}
	}
	return all
}

// okByWords is what ImageOk must tell.
func okByWords(m impl.Image) bool {
	if !slices.Contains(kindDepths, [2]int{m.Kind, m.Depth}) || m.Wide < 1 || m.Wide > 20 || m.High < 1 || m.High > 20 || len(m.Pix) != m.Wide*m.High {
		return false
	}
	most := 1 << m.Depth
	if m.Kind == impl.KindPal {
		if len(m.Colors) < 1 || len(m.Colors) > most {
			return false
		}
		most = len(m.Colors)
	} else if len(m.Colors) != 0 {
		return false
	}
	for _, c := range m.Colors {
		if c < 0 || c > 16777215 {
			return false
		}
	}
	for _, p := range m.Pix {
		if p < 0 || p >= most {
			return false
		}
	}
	return true
}

// colorByWords is the colour of a point of a picture that is ok, from red, green and blue, each for itself.
func colorByWords(m impl.Image, x int, y int) int {
	p := m.Pix[x+y*m.Wide]
	red, green, blue, dense := 0, 0, 0, 255
	switch m.Kind {
	case impl.KindGray:
		red = p * 255 / map[int]int{1: 1, 2: 3, 4: 15, 8: 255}[m.Depth]
		green, blue = red, red
	case impl.KindPal:
		p = m.Colors[p]
		fallthrough
	case impl.KindRgb:
		red, green, blue = p/65536, p/256%256, p%256
	case impl.KindRgba:
		red, green, blue, dense = p/16777216, p/65536%256, p/256%256, p%256
	}
	return 256*(65536*red+256*green+blue) + dense
}

// samePicture says whether two are the same in all parts.
func samePicture(a impl.Image, b impl.Image) bool {
	return a.Kind == b.Kind && a.Depth == b.Depth && a.Wide == b.Wide && a.High == b.High && slices.Equal(a.Colors, b.Colors) && slices.Equal(a.Pix, b.Pix)
}

func isNothing(m impl.Image) bool {
	return samePicture(m, impl.Image{})
}

// guardedPicture lays both lists of a picture into memory with something behind; check tells whether any of that was written.
func guardedPicture(m impl.Image) (impl.Image, func(t *testing.T, what string)) {
	colors, checkColors := guarded(m.Colors, 1234567)
	pix, checkPix := guarded(m.Pix, 1)
	m.Colors, m.Pix = colors, pix
	return m, func(t *testing.T, what string) {
		t.Helper()
		checkColors(t, what)
		checkPix(t, what)
	}
}

// copied is a picture with lists of its own.
func copied(m impl.Image) impl.Image {
	return changedPicture(m, func(*impl.Image) {})
}
