package tests

import (
	"slices"
	"strings"
	"testing"

	"loop.example/intarsia/impl"
)

func TestImageOk(t *testing.T) {
	for i, m := range pictures() {
		if !impl.ImageOk(m) || !okByWords(m) {
			t.Errorf("picture %d: %v", i, m)
		}
	}
	for i, m := range noPictures() {
		if impl.ImageOk(m) || okByWords(m) {
			t.Errorf("no picture %d: %v", i, m)
		}
	}
	if impl.KindGray != 1 || impl.KindRgb != 2 || impl.KindRgba != 3 || impl.KindPal != 4 || impl.SizeMax != 20 {
		t.Error("the constants are others")
	}
	// Each kind with each number of bits that may be, and may not.
	for kind := -1; kind <= 6; kind++ {
		for depth := -1; depth <= 70; depth++ {
			m := impl.Image{Kind: kind, Depth: depth, Wide: 1, High: 1, Pix: []int{0}}
			if kind == impl.KindPal {
				m.Colors = []int{5}
			}
			if impl.ImageOk(m) != slices.Contains(kindDepths, [2]int{kind, depth}) {
				t.Errorf("kind %d, depth %d", kind, depth)
			}
		}
	}
}

// What is not ok has one answer of each function.
func TestNoPictureIsNothing(t *testing.T) {
	good := impl.Image{Kind: impl.KindGray, Depth: 1, Wide: 1, High: 1, Pix: []int{0}}
	for i, m := range noPictures() {
		if p, ok := impl.ImageAt(m, 0, 0); p != 0 || ok {
			t.Errorf("no picture %d: at %d %v", i, p, ok)
		}
		if c, ok := impl.ImageColor(m, 0, 0); c != 0 || ok {
			t.Errorf("no picture %d: colour %d %v", i, c, ok)
		}
		if !isNothing(impl.ImageFlip(m)) || !isNothing(impl.ImageTurn(m)) {
			t.Errorf("no picture %d is turned", i)
		}
		if c, ok := impl.ImageCut(m, 0, 0, 1, 1); !isNothing(c) || ok {
			t.Errorf("no picture %d: cut %v %v", i, c, ok)
		}
		if c, ok := impl.ImageRgb(m); !isNothing(c) || ok {
			t.Errorf("no picture %d: rgb %v %v", i, c, ok)
		}
		if c, ok := impl.ImagePal(m); !isNothing(c) || ok {
			t.Errorf("no picture %d: pal %v %v", i, c, ok)
		}
		if impl.ImageLike(m, m) || impl.ImageLike(m, good) || impl.ImageLike(good, m) {
			t.Errorf("no picture %d looks like something", i)
		}
	}
}

// What is not ok does not look like what has all the same points.
func TestNoPictureLooksLikeOne(t *testing.T) {
	r := dice(83)
	for _, kd := range kindDepths {
		m := somePicture(r, kd[0], kd[1], 4, 3, 1<<(kd[1]%24)/2)
		for what, no := range map[string]impl.Image{
			"kind":    changedPicture(m, func(m *impl.Image) { m.Kind = 7 }),
			"depth":   changedPicture(m, func(m *impl.Image) { m.Depth = 16 }),
			"colours": changedPicture(m, func(m *impl.Image) { m.Colors = slices.Concat(m.Colors, same(0, 257)) }),
			"more":    changedPicture(m, func(m *impl.Image) { m.Pix = append(m.Pix, 0) }),
			"fewer":   changedPicture(m, func(m *impl.Image) { m.Pix = m.Pix[:11] }),
			"below 0": changedPicture(m, func(m *impl.Image) { m.Pix[5] = -1 }),
		} {
			if !impl.ImageLike(m, m) || impl.ImageLike(m, no) || impl.ImageLike(no, m) || impl.ImageLike(no, no) {
				t.Errorf("kind %d, depth %d: %s does not matter", kd[0], kd[1], what)
			}
		}
	}
}

func TestImageAt(t *testing.T) {
	for i, m := range pictures() {
		for y := -2; y < m.High+2; y++ {
			for x := -2; x < m.Wide+2; x++ {
				want, wantOk := 0, x >= 0 && x < m.Wide && y >= 0 && y < m.High
				if wantOk {
					want = m.Pix[y*m.Wide+x]
				}
				if p, ok := impl.ImageAt(m, x, y); p != want || ok != wantOk {
					t.Fatalf("picture %d at %d, %d: %d %v", i, x, y, p, ok)
				}
			}
		}
		for _, n := range extremes {
			for _, at := range [][2]int{{n, 0}, {0, n}, {n, n}} {
				if p, ok := impl.ImageAt(m, at[0], at[1]); p != 0 || ok {
					t.Fatalf("picture %d at %v: %d", i, at, p)
				}
				if c, ok := impl.ImageColor(m, at[0], at[1]); c != 0 || ok {
					t.Fatalf("picture %d at %v: colour %d", i, at, c)
				}
			}
		}
	}
}

func TestPromise33TwiceUpsideDown(t *testing.T) {
	for i, m := range pictures() {
		f := impl.ImageFlip(m)
		want := copied(m)
		for y := range m.High {
			copy(want.Pix[y*m.Wide:], m.Pix[(m.High-1-y)*m.Wide:(m.High-y)*m.Wide])
		}
		if !samePicture(f, want) || !impl.ImageOk(f) {
			t.Fatalf("picture %d: %v, not %v", i, f, want)
		}
		if !slices.Equal(f.Pix[:m.Wide], m.Pix[len(m.Pix)-m.Wide:]) {
			t.Fatalf("picture %d: the top row is %v", i, f.Pix[:m.Wide])
		}
		if !samePicture(impl.ImageFlip(f), m) {
			t.Fatalf("picture %d: twice is %v", i, impl.ImageFlip(f))
		}
	}
}

func TestPromise34FourTimesToTheRight(t *testing.T) {
	for i, m := range pictures() {
		once := impl.ImageTurn(m)
		want := copied(m)
		want.Wide, want.High, want.Pix = m.High, m.Wide, nil
		for x := range m.Wide {
			for y := m.High - 1; y >= 0; y-- {
				want.Pix = append(want.Pix, m.Pix[y*m.Wide+x])
			}
		}
		if !samePicture(once, want) || !impl.ImageOk(once) {
			t.Fatalf("picture %d: %v, not %v", i, once, want)
		}
		twice := impl.ImageTurn(once)
		around := copied(m)
		slices.Reverse(around.Pix)
		if !samePicture(twice, around) {
			t.Fatalf("picture %d: twice is %v", i, twice)
		}
		if !samePicture(impl.ImageTurn(impl.ImageTurn(twice)), m) {
			t.Fatalf("picture %d: four times is another one", i)
		}
	}
	// The upper left corner goes to the upper right one.
	m := impl.Image{Kind: impl.KindGray, Depth: 8, Wide: 3, High: 2, Pix: []int{1, 2, 3, 4, 5, 6}}
	if got := impl.ImageTurn(m); got.Wide != 2 || got.High != 3 || !slices.Equal(got.Pix, []int{4, 1, 5, 2, 6, 3}) {
		t.Errorf("%v", got)
	}
}

func TestPromise35APartOfAPart(t *testing.T) {
	r := dice(351)
	for i, m := range pictures() {
		if all, ok := impl.ImageCut(m, 0, 0, m.Wide, m.High); !samePicture(all, m) || !ok {
			t.Fatalf("picture %d: all of it is %v %v", i, all, ok)
		}
		for range 20 {
			x, y := r.Intn(m.Wide), r.Intn(m.High)
			wide, high := 1+r.Intn(m.Wide-x), 1+r.Intn(m.High-y)
			part, ok := impl.ImageCut(m, x, y, wide, high)
			if !ok || !impl.ImageOk(part) || part.Kind != m.Kind || part.Depth != m.Depth || part.Wide != wide || part.High != high || !slices.Equal(part.Colors, m.Colors) {
				t.Fatalf("picture %d: %v %v", i, part, ok)
			}
			for py := -1; py <= high; py++ {
				for px := -1; px <= wide; px++ {
					got, ok := impl.ImageAt(part, px, py)
					inside := px >= 0 && px < wide && py >= 0 && py < high
					if ok != inside || inside && got != m.Pix[(y+py)*m.Wide+x+px] {
						t.Fatalf("picture %d, part %d, %d: %d %v", i, px, py, got, ok)
					}
				}
			}
			qx, qy := r.Intn(wide), r.Intn(high)
			qw, qh := 1+r.Intn(wide-qx), 1+r.Intn(high-qy)
			ofPart, _ := impl.ImageCut(part, qx, qy, qw, qh)
			if ofAll, _ := impl.ImageCut(m, x+qx, y+qy, qw, qh); !samePicture(ofPart, ofAll) || isNothing(ofPart) {
				t.Fatalf("picture %d: a part of a part is %v, not %v", i, ofPart, ofAll)
			}
		}
		for _, c := range [][4]int{
			{-1, 0, 1, 1}, {0, -1, 1, 1}, {m.Wide, 0, 1, 1}, {0, m.High, 1, 1}, {0, 0, 0, 1}, {0, 0, 1, 0}, {0, 0, -1, 1}, {0, 0, 1, -1}, {0, 0, 0, 0}, {m.Wide, m.High, 0, 0},
			{0, 0, m.Wide + 1, 1}, {0, 0, 1, m.High + 1}, {1, 0, m.Wide, 1}, {0, 1, 1, m.High}, {-1, 0, m.Wide, 1}, {0, -1, 1, m.High}, {m.Wide - 1, 0, 2, 1}, {0, m.High - 1, 1, 2}, {-1, 0, 2, 1}, {0, -1, 1, 2}, {m.Wide, 0, -1, 1},
		} {
			if part, ok := impl.ImageCut(m, c[0], c[1], c[2], c[3]); !isNothing(part) || ok {
				t.Fatalf("picture %d, %v: %v %v", i, c, part, ok)
			}
		}
		for _, n := range extremes {
			for _, c := range [][4]int{{n, 0, 1, 1}, {0, n, 1, 1}, {0, 0, n, 1}, {0, 0, 1, n}, {n, n, n, n}, {n, 0, n, 1}, {0, n, 1, n}, {1, 1, n, n}, {m.Wide - 1, 0, n, 1}, {0, m.High - 1, 1, n}} {
				if part, ok := impl.ImageCut(m, c[0], c[1], c[2], c[3]); !isNothing(part) || ok {
					t.Fatalf("picture %d, %v: %v %v", i, c, part, ok)
				}
			}
		}
	}
}

func TestPromise36APointsColour(t *testing.T) {
	for i, m := range pictures() {
		f := impl.ImageFlip(m)
		for y := -1; y <= m.High; y++ {
			for x := -1; x <= m.Wide; x++ {
				_, there := impl.ImageAt(m, x, y)
				c, ok := impl.ImageColor(m, x, y)
				if ok != there || !ok && c != 0 {
					t.Fatalf("picture %d at %d, %d: %d %v", i, x, y, c, ok)
				}
				if !ok {
					continue
				}
				if c != colorByWords(m, x, y) {
					t.Fatalf("picture %d at %d, %d: %x, not %x", i, x, y, c, colorByWords(m, x, y))
				}
				if m.Kind != impl.KindRgba && c%256 != 255 {
					t.Fatalf("picture %d at %d, %d: %x is not dense", i, x, y, c)
				}
				if other, ok := impl.ImageColor(f, x, m.High-1-y); other != c || !ok {
					t.Fatalf("picture %d at %d, %d: %x upside down", i, x, y, other)
				}
			}
		}
	}
	for _, c := range []struct {
		depth int
		point int
		want  int
	}{{1, 0, 0}, {1, 1, 255}, {2, 1, 85}, {2, 2, 170}, {2, 3, 255}, {4, 1, 17}, {4, 9, 153}, {4, 15, 255}, {8, 1, 1}, {8, 128, 128}, {8, 255, 255}} {
		m := impl.Image{Kind: impl.KindGray, Depth: c.depth, Wide: 1, High: 1, Pix: []int{c.point}}
		if got, _ := impl.ImageColor(m, 0, 0); got != c.want<<24|c.want<<16|c.want<<8|255 {
			t.Errorf("gray %d of %d bits: %x", c.point, c.depth, got)
		}
	}
}

// looksByWords says whether two pictures that are ok are of one size, and of the same colours.
func looksByWords(a impl.Image, b impl.Image) bool {
	if a.Wide != b.Wide || a.High != b.High {
		return false
	}
	for y := range a.High {
		for x := range a.Wide {
			if colorByWords(a, x, y) != colorByWords(b, x, y) {
				return false
			}
		}
	}
	return true
}

// isDense says whether all points of a picture that is ok are.
func isDense(m impl.Image) bool {
	return m.Kind != impl.KindRgba || !slices.ContainsFunc(m.Pix, func(p int) bool { return p%256 != 255 })
}

func TestPromise37OneOfRedGreenAndBlue(t *testing.T) {
	for i, m := range pictures() {
		rgb, ok := impl.ImageRgb(m)
		if ok != isDense(m) || !ok && !isNothing(rgb) {
			t.Fatalf("picture %d: %v %v", i, rgb, ok)
		}
		if !ok {
			continue
		}
		if rgb.Kind != impl.KindRgb || rgb.Depth != 24 || len(rgb.Colors) != 0 || !impl.ImageOk(rgb) || !looksByWords(rgb, m) || !impl.ImageLike(rgb, m) {
			t.Fatalf("picture %d: %v", i, rgb)
		}
		if again, ok := impl.ImageRgb(rgb); !samePicture(again, rgb) || !ok {
			t.Fatalf("picture %d: again %v %v", i, again, ok)
		}
	}
	// One point of all that is not dense, wherever it stands.
	r := dice(371)
	for _, dense := range []int{0, 1, 127, 128, 254, 255} {
		m := solidRgba(r, 20, 20)
		at := r.Intn(400)
		m.Pix[at] = m.Pix[at]/256*256 + dense
		rgb, ok := impl.ImageRgb(m)
		if ok != (dense == 255) || ok && rgb.Pix[at] != m.Pix[at]/256 {
			t.Errorf("dense %d: %v", dense, ok)
		}
	}
	for _, at := range []int{0, 399} {
		m := solidRgba(r, 20, 20)
		m.Pix[at]--
		if rgb, ok := impl.ImageRgb(m); ok || !isNothing(rgb) {
			t.Errorf("point %d: %v", at, ok)
		}
		if pal, ok := impl.ImagePal(m); ok || !isNothing(pal) {
			t.Errorf("point %d: %v of a list", at, ok)
		}
	}
}

// palByWords is what ImagePal must tell of a picture that is ok.
func palByWords(m impl.Image) (impl.Image, bool) {
	out := impl.Image{Kind: impl.KindPal, Depth: 1, Wide: m.Wide, High: m.High}
	for y := range m.High {
		for x := range m.Wide {
			c := colorByWords(m, x, y)
			if c%256 != 255 {
				return impl.Image{}, false
			}
			place := slices.Index(out.Colors, c/256)
			if place < 0 {
				place = len(out.Colors)
				out.Colors = append(out.Colors, c/256)
			}
			out.Pix = append(out.Pix, place)
		}
	}
	for len(out.Colors) > 1<<out.Depth {
		out.Depth *= 2
	}
	if out.Depth > 8 {
		return impl.Image{}, false
	}
	return out, true
}

func TestPromise38OneOfAListOfColours(t *testing.T) {
	r := dice(381)
	all := pictures()
	for _, count := range []int{1, 2, 3, 4, 5, 15, 16, 17, 18, 255, 256, 257, 258, 400} {
		all = append(all, fewColors(r, 20, 20, count))
	}
	// Colours that stand twice in a list, and such as do not come.
	all = append(all,
		impl.Image{Kind: impl.KindPal, Depth: 8, Wide: 3, High: 1, Colors: []int{9, 9, 7, 9, 5}, Pix: []int{3, 1, 0}},
		impl.Image{Kind: impl.KindPal, Depth: 8, Wide: 3, High: 1, Colors: []int{9, 9, 7, 9, 5}, Pix: []int{4, 1, 2}},
	)
	came := map[int]int{}
	for i, m := range all {
		want, wantOk := palByWords(m)
		pal, ok := impl.ImagePal(m)
		if !samePicture(pal, want) || ok != wantOk {
			t.Fatalf("picture %d: %v %v, not %v %v", i, pal, ok, want, wantOk)
		}
		if !ok {
			continue
		}
		came[pal.Depth]++
		if !impl.ImageOk(pal) || !looksByWords(pal, m) || !impl.ImageLike(pal, m) {
			t.Fatalf("picture %d: %v", i, pal)
		}
		once := slices.Compact(slices.Sorted(slices.Values(pal.Colors)))
		if len(once) != len(pal.Colors) || pal.Depth > 1 && len(pal.Colors) <= 1<<(pal.Depth/2) {
			t.Fatalf("picture %d: %d colours of %d, depth %d", i, len(once), len(pal.Colors), pal.Depth)
		}
		if again, ok := impl.ImagePal(pal); !samePicture(again, pal) || !ok {
			t.Fatalf("picture %d: again %v %v", i, again, ok)
		}
	}
	if len(came) != 4 {
		t.Errorf("depths came so often: %v", came)
	}
	for _, c := range []struct {
		count int
		depth int
	}{{1, 1}, {2, 1}, {3, 2}, {4, 2}, {5, 4}, {16, 4}, {17, 8}, {256, 8}, {257, 0}, {400, 0}} {
		pal, ok := impl.ImagePal(fewColors(r, 20, 20, c.count))
		if pal.Depth != c.depth || ok != (c.depth > 0) || ok && len(pal.Colors) != c.count {
			t.Errorf("%d colours: depth %d, %v", c.count, pal.Depth, ok)
		}
	}
}

func TestPromise39WhatLooksTheSame(t *testing.T) {
	r := dice(391)
	var all []impl.Image
	for i, m := range pictures() {
		if m.Wide*m.High > 12 && i%5 > 0 {
			continue
		}
		all = append(all, m)
		if rgb, ok := impl.ImageRgb(m); ok {
			all = append(all, rgb)
		}
		if pal, ok := impl.ImagePal(m); ok {
			all = append(all, pal)
			pal = copied(pal)
			slices.Reverse(pal.Colors)
			for i := range pal.Pix {
				pal.Pix[i] = len(pal.Colors) - 1 - pal.Pix[i]
			}
			all = append(all, pal)
		}
		other := copied(m)
		other.Pix[r.Intn(len(other.Pix))] = 0
		all = append(all, other)
	}
	likes := 0
	for i, a := range all {
		for k, b := range all {
			like := impl.ImageLike(a, b)
			if like != looksByWords(a, b) || like != impl.ImageLike(b, a) || i == k && !like {
				t.Fatalf("pictures %d and %d: %v\n%v\n%v", i, k, like, a, b)
			}
			if like && i != k {
				likes++
			}
			if a.Wide != b.Wide || a.High != b.High {
				continue
			}
			if like != impl.ImageLike(impl.ImageFlip(a), impl.ImageFlip(b)) {
				t.Fatalf("pictures %d and %d upside down", i, k)
			}
			x, okX := impl.ImageRgb(a)
			y, okY := impl.ImageRgb(b)
			if okX && okY && like != samePicture(x, y) || okX != okY && like {
				t.Fatalf("pictures %d and %d of red, green and blue", i, k)
			}
		}
	}
	if likes < 200 {
		t.Errorf("only %d look the same", likes)
	}
	// One bit of one point, how dense it is alone.
	a := solidRgba(r, 3, 3)
	for bit := range 32 {
		b := copied(a)
		b.Pix[r.Intn(9)] ^= 1 << bit
		if impl.ImageLike(a, b) {
			t.Errorf("bit %d does not matter", bit)
		}
	}
	wide := impl.Image{Kind: impl.KindGray, Depth: 1, Wide: 4, High: 1, Pix: same(0, 4)}
	for _, size := range [][2]int{{1, 4}, {2, 2}} {
		if other := (impl.Image{Kind: impl.KindGray, Depth: 1, Wide: size[0], High: size[1], Pix: same(0, 4)}); impl.ImageLike(wide, other) {
			t.Errorf("%v looks as 4, 1", size)
		}
	}
}

// rowByWords is points as figures, the highest bit first, packed the highest first.
func rowByWords(row []int, depth int) string {
	var bits strings.Builder
	for _, p := range row {
		bits.WriteString(figures(p, depth, true))
	}
	return highText(bits.String())
}

func TestPromise31ARowOfPoints(t *testing.T) {
	r := dice(311)
	for _, depth := range tableDepths {
		for _, count := range []int{0, 1, 2, 3, 4, 5, 6, 7, 8, 9, 15, 16, 17, 20, 100, 999, 1000} {
			for range 3 {
				row, check := guarded(someNumbersBelow(r, count, 1<<depth), 1)
				packed := impl.RowPut(row, depth)
				check(t, "RowPut")
				if packed != rowByWords(row, depth) || len(packed) != (count*depth+7)/8 {
					t.Fatalf("%v, depth %d: %x", row, depth, packed)
				}
				if got, ok := impl.RowGet(packed, depth, count); !slices.Equal(got, row) || !ok {
					t.Fatalf("%v, depth %d: %v %v", row, depth, got, ok)
				}
				// What the last byte has behind them does not matter.
				if spare := 8*len(packed) - count*depth; spare > 0 {
					full := []byte(packed)
					full[len(full)-1] |= 1<<spare - 1
					if got, ok := impl.RowGet(string(full), depth, count); !slices.Equal(got, row) || !ok {
						t.Fatalf("%v, depth %d, filled up: %v %v", row, depth, got, ok)
					}
				}
			}
		}
	}
	for _, c := range []struct {
		row   []int
		depth int
		want  string
	}{
		{nil, 1, ""},
		{[]int{1}, 1, "\x80"},
		{[]int{0, 0, 0, 0, 0, 0, 0, 1}, 1, "\x01"},
		{[]int{0, 0, 0, 0, 0, 0, 0, 0, 1}, 1, "\x00\x80"},
		{[]int{1, 0, 1}, 1, "\xa0"},
		{[]int{1, 2, 3}, 2, "\x6c"},
		{[]int{1, 2, 3}, 4, "\x12\x30"},
		{[]int{1, 255}, 8, "\x01\xff"},
		{[]int{66051}, 24, "\x01\x02\x03"},
		{[]int{0x01020304, 0xffffffff}, 32, "\x01\x02\x03\x04\xff\xff\xff\xff"},
	} {
		if got := impl.RowPut(c.row, c.depth); got != c.want {
			t.Errorf("%v, depth %d: %x", c.row, c.depth, got)
		}
	}
}

func TestRowPutWrong(t *testing.T) {
	for depth := -2; depth <= 70; depth++ {
		if slices.Contains(tableDepths, depth) {
			continue
		}
		for _, row := range [][]int{nil, {0}, {1, 0, 1}} {
			if got := impl.RowPut(row, depth); got != "" {
				t.Errorf("depth %d: %x", depth, got)
			}
		}
	}
	for _, depth := range extremes {
		if got := impl.RowPut([]int{0, 0}, depth); got != "" {
			t.Errorf("depth %d: %x", depth, got)
		}
	}
	for _, depth := range tableDepths {
		for _, p := range append([]int{-1, 1 << depth, 1<<depth + 1, 1 << 40}, extremes...) {
			for _, row := range [][]int{{p}, {0, p}, {p, 0}, append(same(0, 999), p)} {
				fits := p >= 0 && p < 1<<depth
				if got := impl.RowPut(row, depth); (got != "") != fits {
					t.Errorf("depth %d, point %d: %d bytes", depth, p, len(got))
				}
			}
		}
		if got := impl.RowPut(same(0, 1000), depth); len(got) != 125*depth {
			t.Errorf("depth %d: %d bytes of 1000 points", depth, len(got))
		}
		for _, count := range []int{1001, 5000, 100000} {
			if got := impl.RowPut(same(0, count), depth); got != "" {
				t.Errorf("depth %d: %d points are taken", depth, count)
			}
		}
	}
}

func TestPromise32WhatIsReadOfARow(t *testing.T) {
	r := dice(321)
	for _, depth := range tableDepths {
		for _, count := range []int{0, 1, 2, 3, 5, 7, 8, 9, 16, 17, 100, 999, 1000} {
			need := (count*depth + 7) / 8
			for _, size := range []int{need - 2, need - 1, need, need + 1, need + 2, impl.TextMax, impl.TextMax + 1} {
				if size < 0 {
					continue
				}
				text := someText(r, size)
				row, ok := impl.RowGet(text, depth, count)
				if ok != (size == need) || !ok && len(row) != 0 {
					t.Fatalf("%d bytes, depth %d, %d points: %d %v", size, depth, count, len(row), ok)
				}
				if !ok {
					continue
				}
				bits := bitsOf(text, true)
				if len(row) != count {
					t.Fatalf("%d points, not %d", len(row), count)
				}
				for i, p := range row {
					if p < 0 || p>>depth != 0 || figures(p, depth, true) != bits[i*depth:(i+1)*depth] {
						t.Fatalf("%x, depth %d: point %d is %d", text, depth, i, p)
					}
				}
			}
		}
		if row, ok := impl.RowGet("", depth, 0); len(row) != 0 || !ok {
			t.Errorf("no points: %v %v", row, ok)
		}
		for _, count := range append([]int{-1, 1001, 2000}, extremes...) {
			size := 0
			if count > 0 && count < 10000 {
				size = (count*depth + 7) / 8
			}
			for _, size := range []int{0, 1, size} {
				if row, ok := impl.RowGet(strings.Repeat("a", size), depth, count); len(row) != 0 || ok {
					t.Errorf("depth %d, %d points: %v %v", depth, count, row, ok)
				}
			}
		}
	}
	for depth := -2; depth <= 70; depth++ {
		if slices.Contains(tableDepths, depth) {
			continue
		}
		for _, size := range []int{0, 1, max(0, depth/8), max(0, (depth+7)/8)} {
			for count := range 3 {
				if row, ok := impl.RowGet(strings.Repeat("a", size), depth, count); len(row) != 0 || ok {
					t.Errorf("depth %d, %d bytes: %v %v", depth, size, row, ok)
				}
			}
		}
	}
	for _, depth := range extremes {
		for _, count := range []int{0, 1, 8, 1000} {
			if row, ok := impl.RowGet("", depth, count); len(row) != 0 || ok {
				t.Errorf("depth %d: %v %v", depth, row, ok)
			}
		}
	}
}

// eachAnswer does all that answers a picture.
func eachAnswer(m impl.Image, look func(what string, answer impl.Image)) {
	look("ImageFlip", impl.ImageFlip(m))
	look("ImageTurn", impl.ImageTurn(m))
	cut, _ := impl.ImageCut(m, 0, 0, m.Wide, m.High)
	look("ImageCut", cut)
	rgb, _ := impl.ImageRgb(m)
	look("ImageRgb", rgb)
	pal, _ := impl.ImagePal(m)
	look("ImagePal", pal)
}

func TestPicturesLeaveTheirArguments(t *testing.T) {
	for _, m := range append(pictures(), noPictures()...) {
		laid, check := guardedPicture(m)
		eachAnswer(laid, func(what string, answer impl.Image) {})
		impl.ImageOk(laid)
		impl.ImageAt(laid, 0, 0)
		impl.ImageColor(laid, 0, 0)
		impl.ImageLike(laid, laid)
		check(t, "a picture")
	}
}

func TestPicturesAreNewMemory(t *testing.T) {
	for i, m := range pictures() {
		before := copied(m)
		eachAnswer(m, func(what string, answer impl.Image) {
			kept := copied(answer)
			spoil(answer.Colors, 77)
			if !slices.Equal(answer.Pix, kept.Pix) {
				t.Fatalf("picture %d, %s: both lists share memory", i, what)
			}
			spoil(answer.Pix, 78)
			if !samePicture(m, before) {
				t.Fatalf("picture %d, %s: memory of the argument", i, what)
			}
		})
		eachAnswer(m, func(what string, answer impl.Image) {
			if len(answer.Pix) > 0 && !impl.ImageOk(answer) {
				t.Fatalf("picture %d, %s: something was kept", i, what)
			}
		})
	}
	packed := impl.RowPut([]int{1, 2, 3}, 4)
	for range 2 {
		row, _ := impl.RowGet(packed, 4, 3)
		if !slices.Equal(row, []int{1, 2, 3}) {
			t.Errorf("%v", row)
		}
		spoil(row, 9)
	}
}
