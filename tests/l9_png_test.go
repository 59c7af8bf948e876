package tests

import (
	"bytes"
	"compress/zlib"
	"fmt"
	"image"
	"image/color"
	"image/png"
	"math/rand"
	"slices"
	"strings"
	"testing"

	"loop.example/intarsia/impl"
)

// filterRows are rows with what stands above, of all edges of sizes.
func filterRows() [][2]string {
	r := dice(411)
	all := [][2]string{{"", ""}}
	for _, size := range []int{1, 2, 3, 4, 5, 6, 7, 8, 9, 20, 80, 255, 256, 257, 999, 1000} {
		for range 3 {
			row := someText(r, size)
			all = append(all, [2]string{row, ""}, [2]string{row, someText(r, size)})
		}
		low, high := strings.Repeat("\x00", size), strings.Repeat("\xff", size)
		for _, row := range []string{low, high} {
			all = append(all, [2]string{row, ""}, [2]string{row, low}, [2]string{row, high})
		}
		all = append(all, [2]string{patchwork(r, size), patchwork(r, size)})
	}
	return all
}

func TestPromise41WhatIsTakenAwayCanBePutBack(t *testing.T) {
	for _, c := range filterRows() {
		row, above := c[0], c[1]
		for kind := range 5 {
			for step := 1; step <= 4; step++ {
				left := impl.FilterPut(kind, row, above, step)
				if left != filterByWords(kind, row, above, step, false) {
					t.Fatalf("kind %d, step %d, %x above %x: %x", kind, step, above, row, left)
				}
				if got := impl.FilterGet(kind, left, above, step); got != row {
					t.Fatalf("kind %d, step %d, %x above %x: back %x", kind, step, above, row, got)
				}
				whole := impl.FilterGet(kind, row, above, step)
				if whole != filterByWords(kind, row, above, step, true) {
					t.Fatalf("kind %d, step %d, %x above %x: whole %x", kind, step, above, row, whole)
				}
				if got := impl.FilterPut(kind, whole, above, step); got != row {
					t.Fatalf("kind %d, step %d, %x above %x: there %x", kind, step, above, row, got)
				}
			}
		}
	}
}

func TestFiltersByHand(t *testing.T) {
	for _, c := range []struct {
		kind  int
		row   string
		above string
		step  int
		want  string
	}{
		{0, "\x05\x0a\xff\x00", "\x01\x02\x03\x04", 1, "\x05\x0a\xff\x00"},
		{1, "\x05\x0a\xff\x00", "\x01\x02\x03\x04", 1, "\x05\x05\xf5\x01"},
		{1, "\x05\x0a\xff\x00", "\x01\x02\x03\x04", 2, "\x05\x0a\xfa\xf6"},
		{1, "\x05\x0a\xff\x00", "", 3, "\x05\x0a\xff\xfb"},
		{1, "\x05\x0a\xff\x00", "", 4, "\x05\x0a\xff\x00"},
		{2, "\x05\x0a\xff\x00", "\x01\x02\x03\x04", 1, "\x04\x08\xfc\xfc"},
		{2, "\x05\x0a\xff\x00", "\x01\x02\x03\x04", 4, "\x04\x08\xfc\xfc"},
		// Half of 1, of 7, of 13, of 259: down, and not modulo 256 ahead of that.
		{3, "\x05\x0a\xff\x00", "\x01\x02\x03\x04", 1, "\x05\x07\xf9\x7f"},
		{3, "\xff\xff", "\xff\xff", 1, "\x80\x00"},
		{3, "\x05\x0a\xff\x00", "", 1, "\x05\x08\xfa\x81"},
		// A alone is there for a row without one above, B alone for the first.
		{4, "\x05\x0a\xff\x00", "", 1, "\x05\x05\xf5\x01"},
		{4, "\x05", "\x03", 1, "\x02"},
		// A, B and C: 10, 20, 15: just C; 10, 20, 10: just B; 20, 10, 10: just A.
		{4, "\x0a\x00", "\x0f\x14", 1, "\xfb\xf1"},
		{4, "\x0a\x00", "\x0a\x14", 1, "\x00\xec"},
		{4, "\x14\x00", "\x0a\x0a", 1, "\x0a\xec"},
		// 10, 20, 30: 0 is below all; 12, 10, 9 and 10, 12, 9: 13 is above all.
		{4, "\x0a\x00", "\x1e\x14", 1, "\xec\xf6"},
		{4, "\x0c\x00", "\x09\x0a", 1, "\x03\xf4"},
		{4, "\x0a\x00", "\x09\x0c", 1, "\x01\xf4"},
		// 6, 12, 10: 8 is as near to A as to C; 12, 6, 10: to B as to C.
		{4, "\x06\x00", "\x0a\x0c", 1, "\xfc\xfa"},
		{4, "\x0c\x00", "\x0a\x06", 1, "\x02\xfa"},
		// 255 and 255 less 0 is above all that a byte holds; 0 and 0 less 255 below.
		{4, "\xff\x00", "\x00\xff", 1, "\xff\x01"},
		{4, "\x00\x07", "\xff\x00", 1, "\x01\x07"},
	} {
		if got := impl.FilterPut(c.kind, c.row, c.above, c.step); got != c.want {
			t.Errorf("kind %d, step %d, %x above %x: %x, not %x", c.kind, c.step, c.above, c.row, got, c.want)
		}
		if got := impl.FilterGet(c.kind, c.want, c.above, c.step); got != c.row {
			t.Errorf("kind %d, step %d, %x above %x: %x, not %x", c.kind, c.step, c.above, c.want, got, c.row)
		}
	}
}

// Of equal ones of A, B and C the first: each three of them in which two that are not the same are as near.
func TestFilterNearestIsTheFirstOfEqualOnes(t *testing.T) {
	ties := map[string]int{}
	values := []int{0, 1, 2, 3, 4, 5, 6, 8, 10, 100, 127, 128, 129, 200, 251, 252, 253, 254, 255}
	for _, a := range values {
		for _, b := range values {
			for _, c := range values {
				p := a + b - c
				far := func(n int) int { return max(n-p, p-n) }
				want := c
				switch {
				case far(a) <= far(b) && far(a) <= far(c):
					want = a
				case far(b) <= far(c):
					want = b
				}
				if a != c && far(a) == far(c) && far(a) <= far(b) {
					ties["ac"]++
				}
				if b != c && far(b) == far(c) && far(b) < far(a) {
					ties["bc"]++
				}
				row, above := string([]byte{byte(a), 0}), string([]byte{byte(c), byte(b)})
				if got := impl.FilterPut(4, row, above, 1); got[1] != byte(-want) {
					t.Fatalf("%d, %d, %d: %d, not %d", a, b, c, -got[1], want)
				}
				if got := impl.FilterGet(4, string([]byte{byte(a - c), 0}), above, 1); len(got) != 2 {
					t.Fatalf("%d, %d, %d: %x", a, b, c, got)
				}
			}
		}
	}
	// Where A and B are as near, and not the same, C is nearer.
	if ties["ac"] == 0 || ties["bc"] == 0 {
		t.Errorf("such as are as near came so often: %v", ties)
	}
}

func TestFiltersOfWrongArguments(t *testing.T) {
	row, above := "abcd", "efgh"
	look := func(what string, kind int, row string, above string, step int) {
		t.Helper()
		if got := impl.FilterPut(kind, row, above, step); got != "" {
			t.Errorf("%s: %x is put", what, got)
		}
		if got := impl.FilterGet(kind, row, above, step); got != "" {
			t.Errorf("%s: %x is got", what, got)
		}
	}
	for _, n := range append([]int{-1, 5, 6, 255, 256}, extremes...) {
		look(fmt.Sprint("kind ", n), n, row, above, 1)
		look(fmt.Sprint("kind ", n), n, row, "", 1)
	}
	for _, n := range append([]int{-1, 0, 5, 8}, extremes...) {
		for kind := range 5 {
			look(fmt.Sprint("step ", n), kind, row, above, n)
			look(fmt.Sprint("step ", n), kind, row, "", n)
		}
	}
	full := strings.Repeat("x", 1000)
	for kind := range 5 {
		for _, above := range []string{"e", "efg", "efghi", full} {
			look("above "+above, kind, row, above, 1)
		}
		look("above no row", kind, "", "a", 1)
		for _, size := range []int{1001, 5000, 100000} {
			long := strings.Repeat("x", size)
			look("a long row", kind, long, "", 1)
			look("a long row", kind, long, long, 1)
		}
		look("a long one above", kind, full, full+"x", 1)
		look("a short one above", kind, full, full[1:], 1)
		for _, above := range []string{"", full} {
			if len(impl.FilterPut(kind, full, above, 1)) != 1000 || len(impl.FilterGet(kind, full, above, 4)) != 1000 {
				t.Errorf("kind %d: a row of 1000 is none", kind)
			}
		}
	}
}

func TestPromise42WithoutARowAbove(t *testing.T) {
	for _, c := range filterRows() {
		for step := 1; step <= 4; step++ {
			if impl.FilterPut(0, c[0], "", step) != c[0] || impl.FilterPut(2, c[0], "", step) != c[0] {
				t.Fatalf("%x, step %d: 0 or 2 takes something away", c[0], step)
			}
			if impl.FilterPut(4, c[0], "", step) != impl.FilterPut(1, c[0], "", step) {
				t.Fatalf("%x, step %d: 4 is not 1", c[0], step)
			}
			if impl.FilterGet(0, c[0], "", step) != c[0] || impl.FilterGet(2, c[0], "", step) != c[0] || impl.FilterGet(4, c[0], "", step) != impl.FilterGet(1, c[0], "", step) {
				t.Fatalf("%x, step %d: back", c[0], step)
			}
		}
	}
}

func TestPromise43EachPointIsInJustOnePart(t *testing.T) {
	steps := [][4]int{{0, 0, 8, 8}, {4, 0, 8, 8}, {0, 4, 4, 8}, {2, 0, 4, 4}, {0, 2, 2, 4}, {1, 0, 2, 2}, {0, 1, 1, 2}}
	for wide := 1; wide <= impl.SizeMax; wide++ {
		for high := 1; high <= impl.SizeMax; high++ {
			list := impl.PassesOf(wide, high)
			times := map[place]int{}
			last := -1
			for _, p := range list {
				which := slices.Index(steps, [4]int{p.X, p.Y, p.Dx, p.Dy})
				if which <= last || p.Wide < 1 || p.High < 1 {
					t.Fatalf("%d, %d: %v", wide, high, list)
				}
				last = which
				for y := range p.High {
					for x := range p.Wide {
						at := place{p.X + x*p.Dx, p.Y + y*p.Dy}
						times[at]++
						if at[0] >= wide || at[1] >= high || int(weave[at[1]%8][at[0]%8]-'1') != which {
							t.Fatalf("%d, %d: %v is in %v", wide, high, at, p)
						}
					}
				}
			}
			if len(times) != wide*high {
				t.Fatalf("%d, %d: %d points", wide, high, len(times))
			}
			for at, n := range times {
				if n != 1 {
					t.Fatalf("%d, %d: %v is there %d times", wide, high, at, n)
				}
			}
			if len(list) != len(partRows(wide, high, true)) {
				t.Fatalf("%d, %d: %d parts", wide, high, len(list))
			}
		}
	}
	for _, c := range []struct {
		wide int
		high int
		want string
	}{
		{1, 1, "[{0 0 8 8 1 1}]"},
		{2, 1, "[{0 0 8 8 1 1} {1 0 2 2 1 1}]"},
		{1, 2, "[{0 0 8 8 1 1} {0 1 1 2 1 1}]"},
		{5, 1, "[{0 0 8 8 1 1} {4 0 8 8 1 1} {2 0 4 4 1 1} {1 0 2 2 2 1}]"},
		{1, 5, "[{0 0 8 8 1 1} {0 4 4 8 1 1} {0 2 2 4 1 1} {0 1 1 2 1 2}]"},
		{8, 8, "[{0 0 8 8 1 1} {4 0 8 8 1 1} {0 4 4 8 2 1} {2 0 4 4 2 2} {0 2 2 4 4 2} {1 0 2 2 4 4} {0 1 1 2 8 4}]"},
		{20, 20, "[{0 0 8 8 3 3} {4 0 8 8 2 3} {0 4 4 8 5 2} {2 0 4 4 5 5} {0 2 2 4 10 5} {1 0 2 2 10 10} {0 1 1 2 20 10}]"},
	} {
		if got := fmt.Sprint(impl.PassesOf(c.wide, c.high)); got != c.want {
			t.Errorf("%d, %d: %s", c.wide, c.high, got)
		}
	}
}

func TestPassesOfWrongSizes(t *testing.T) {
	for _, n := range append([]int{0, -1, 21, 22, 100}, extremes...) {
		for _, size := range [][2]int{{n, 1}, {1, n}, {n, n}, {n, 20}, {20, n}} {
			if list := impl.PassesOf(size[0], size[1]); len(list) != 0 {
				t.Errorf("%v: %v", size, list)
			}
		}
	}
}

// chunkLists are lists of pieces, of all edges of sizes.
func chunkLists() [][]impl.Chunk {
	r := dice(441)
	all := [][]impl.Chunk{
		nil,
		{{Name: "IEND"}},
		{{Name: "AZaz", Body: "x"}},
		{{Name: "zaZA", Body: "\x00"}, {Name: "zaZA", Body: "\x00"}},
		{{Name: "full", Body: someText(r, impl.TextMax-8-12)}},
		{{Name: "half", Body: someText(r, 4000)}, {Name: "rest", Body: someText(r, impl.TextMax-8-24-4000)}},
		{{Name: "full", Body: someText(r, impl.TextMax-8-24)}, {Name: "none"}},
		{{Name: "over", Body: someText(r, impl.TextMax-8-12+1)}},
		{{Name: "over", Body: someText(r, impl.TextMax-8-24+1)}, {Name: "none"}},
		{{Name: "over", Body: someText(r, impl.TextMax)}},
		{{Name: "over", Body: someText(r, impl.TextMax+1)}},
		{{Name: "over", Body: someText(r, 70000)}},
		slices.Repeat([]impl.Chunk{{Name: "none"}}, (impl.TextMax-8)/12),
		slices.Repeat([]impl.Chunk{{Name: "none"}}, (impl.TextMax-8)/12+1),
	}
	for range 60 {
		var list []impl.Chunk
		for range r.Intn(6) {
			name := []byte("abcd")
			for i := range name {
				name[i] = "ABMYZabmyz"[r.Intn(10)]
			}
			list = append(list, impl.Chunk{Name: string(name), Body: someText(r, r.Intn(300))})
		}
		all = append(all, list)
	}
	return all
}

func TestPromise44PiecesCanBeWrittenAndRead(t *testing.T) {
	written := 0
	for i, list := range chunkLists() {
		laid, check := guarded(list, impl.Chunk{Name: "keep", Body: "this"})
		text := impl.ChunksPut(laid)
		check(t, "ChunksPut")
		if text != chunksByWords(list) || len(text) > impl.TextMax {
			t.Fatalf("list %d: %x", i, text)
		}
		if text == "" {
			continue
		}
		written++
		got, ok := impl.ChunksGet(text)
		if !slices.Equal(got, list) || !ok {
			t.Fatalf("list %d: %q %v", i, got, ok)
		}
		if impl.ChunksPut(got) != text {
			t.Fatalf("list %d is written in another way", i)
		}
	}
	if written < 60 {
		t.Errorf("only %d were written", written)
	}
	if got := impl.ChunksPut(nil); got != "\x89PNG\r\n\x1a\n" {
		t.Errorf("no pieces: %x", got)
	}
	if got := impl.ChunksPut([]impl.Chunk{{Name: "IEND"}}); got != "\x89PNG\r\n\x1a\n\x00\x00\x00\x00IEND\xae\x42\x60\x82" {
		t.Errorf("IEND: %x", got)
	}
	if got := impl.ChunksPut([]impl.Chunk{{Name: "full", Body: strings.Repeat("x", impl.TextMax-20)}}); len(got) != impl.TextMax {
		t.Errorf("a full text has %d bytes", len(got))
	}
}

// noNames are such as a piece cannot have.
func noNames() []string {
	all := []string{"", "a", "abc", "abcde", "abcdefgh", "    ", "ab d", "ab1d", "\x00\x00\x00\x00", "äb", "äbc", "äbcd", "abcdé", "日a", "ßß", "\xffabc", "abc\xff"}
	for b := range 256 {
		if c := byte(b); (c < 'A' || c > 'Z') && (c < 'a' || c > 'z') {
			for at := range 4 {
				name := []byte("bcBC")
				name[at] = c
				all = append(all, string(name))
			}
		}
	}
	return all
}

func TestChunksPutOfWrongNames(t *testing.T) {
	good := impl.Chunk{Name: "good", Body: "x"}
	for _, name := range noNames() {
		no := impl.Chunk{Name: name, Body: "body"}
		for _, list := range [][]impl.Chunk{{no}, {no, good}, {good, no}, {good, no, good}, {{Name: name}}} {
			if got := impl.ChunksPut(list); got != "" {
				t.Errorf("%q: %x", name, got)
			}
		}
		if len(name) == 4 {
			if list, ok := impl.ChunksGet(pieces(good, no)); len(list) != 0 || ok {
				t.Errorf("%q: %q %v", name, list, ok)
			}
		}
	}
	for b := range 256 {
		c := byte(b)
		name := "a" + string([]byte{c}) + "Za"
		letter := c >= 'A' && c <= 'Z' || c >= 'a' && c <= 'z'
		if got := impl.ChunksPut([]impl.Chunk{{Name: name}}); (got != "") != letter {
			t.Errorf("%q: %x", name, got)
		}
		if _, ok := impl.ChunksGet(pieces(impl.Chunk{Name: name})); ok != letter {
			t.Errorf("%q: %v", name, ok)
		}
	}
}

// A list may be as long as it likes: what is too much is seen ahead of being written.
func TestChunksPutOfVeryMuch(t *testing.T) {
	list := slices.Repeat([]impl.Chunk{{Name: "many", Body: strings.Repeat("x", 1<<20)}}, 100000)
	if got := impl.ChunksPut(list); got != "" {
		t.Errorf("%d bytes", len(got))
	}
	list = slices.Repeat([]impl.Chunk{{Name: "many"}}, 1000000)
	if got := impl.ChunksPut(list); got != "" {
		t.Errorf("%d bytes", len(got))
	}
}

// checkChunks holds what is read of a text against the words.
func checkChunks(t *testing.T, what string, text string) bool {
	t.Helper()
	want, wantOk := chunksGetByWords(text)
	got, ok := impl.ChunksGet(text)
	if ok != wantOk || !slices.Equal(got, want) {
		t.Fatalf("%s: %x\n%q %v, not\n%q %v", what, text, got, ok, want, wantOk)
	}
	if ok && impl.ChunksPut(got) != text {
		t.Fatalf("%s: %x is written in another way", what, text)
	}
	return ok
}

func TestChunksGetOfOtherTexts(t *testing.T) {
	good := pieces(impl.Chunk{Name: "abcd", Body: "some text"}, impl.Chunk{Name: "none"}, impl.Chunk{Name: "EFGH", Body: "\x00"})
	whole := map[int]bool{8: true, 8 + 12 + 9: true, 8 + 12 + 9 + 12: true, len(good): true}
	for size := range len(good) + 1 {
		if ok := checkChunks(t, "cut off", good[:size]); ok != whole[size] {
			t.Errorf("%d bytes: %v", size, ok)
		}
	}
	for _, more := range []string{"\x00", "x", "\x00\x00\x00\x00", "\x00\x00\x00\x00none", chunkByWords("none", "")[:11], good} {
		if checkChunks(t, "more", good+more) {
			t.Errorf("%x may stand behind", more)
		}
	}
	for _, ahead := range []string{"\x00", "\x89", "x"} {
		if checkChunks(t, "ahead", ahead+good) {
			t.Errorf("%x may stand ahead", ahead)
		}
	}
	for bit := range 8 * len(pngBegin) {
		if checkChunks(t, "another beginning", turnBit(good, bit)) || checkChunks(t, "another beginning", turnBit(pngBegin, bit)) {
			t.Errorf("bit %d of the beginning does not matter", bit)
		}
	}
	for _, text := range []string{"", "\x89PNG", "PNG", pngBegin[:7], "GIF89a", pngBegin[1:]} {
		if checkChunks(t, "no beginning", text) {
			t.Errorf("%x", text)
		}
	}
	// Sizes that are not so, with all that they may seem to stand for.
	for _, size := range []string{"\x00\x00\x00\x02", "\x00\x00\x00\x00", "\x01\x00\x00\x00", "\x80\x00\x00\x01", "\x7f\xff\xff\xff", "\xff\xff\xff\xff", "\x80\x00\x00\x00", "\xff\xff\xff\xf4", "\x00\x01\x00\x01"} {
		one := chunkByWords("abcd", "x")
		if checkChunks(t, "size", pngBegin+size+one[4:]) {
			t.Errorf("size %x", size)
		}
	}
	// The lowest byte first, in the size or in the sum.
	body := "some text"
	one := chunkByWords("abcd", body)
	if checkChunks(t, "size", pngBegin+lowBytes(len(body), 4)+one[4:]) {
		t.Error("the size may be the other way round")
	}
	sum := []byte(one[len(one)-4:])
	slices.Reverse(sum)
	if checkChunks(t, "sum", pngBegin+one[:len(one)-4]+string(sum)) {
		t.Error("the sum may be the other way round")
	}
	// The sum of the body alone, or of the size too.
	for _, of := range []string{body, "abcd", one[:len(one)-4]} {
		if checkChunks(t, "sum", pngBegin+one[:len(one)-4]+impl.NumPut(impl.Crc32(of), 4, true)) {
			t.Errorf("the sum of %x", of)
		}
	}
}

func TestChunksGetOfLongTexts(t *testing.T) {
	full := pieces(impl.Chunk{Name: "full", Body: strings.Repeat("x", impl.TextMax-20)})
	over := pieces(impl.Chunk{Name: "over", Body: strings.Repeat("x", impl.TextMax-19)})
	if !checkChunks(t, "full", full) || len(full) != impl.TextMax {
		t.Error("a text of all bytes is not read")
	}
	if checkChunks(t, "over", over) || checkChunks(t, "much", pieces(slices.Repeat([]impl.Chunk{{Name: "much", Body: over}}, 8)...)) {
		t.Error("a text of more bytes is read")
	}
	many := slices.Repeat([]impl.Chunk{{Name: "none"}}, (impl.TextMax-8)/12)
	if !checkChunks(t, "many", pieces(many...)) || checkChunks(t, "many", pieces(append(many, impl.Chunk{Name: "none"})...)) {
		t.Error("many pieces")
	}
}

func TestChunksGetOfHurtTexts(t *testing.T) {
	r := dice(442)
	read := 0
	for _, list := range chunkLists() {
		text := impl.ChunksPut(list)
		for range 40 {
			if checkChunks(t, "hurt", hurt(r, text)) {
				read++
			}
		}
	}
	if read == 0 {
		t.Error("none could be read")
	}
}

func TestPromise45APieceOfWhichOneBitIsAnotherOne(t *testing.T) {
	r := dice(451)
	for _, c := range []impl.Chunk{{Name: "IEND"}, {Name: "abcd", Body: "x"}, {Name: "IDAT", Body: someText(r, 100)}, {Name: "PLTE", Body: strings.Repeat("\x00", 30)}, {Name: "full", Body: strings.Repeat("\xff", 600)}} {
		text := impl.ChunksPut([]impl.Chunk{c})
		for bit := 8 * (8 + 4); bit < 8*len(text); bit++ {
			if list, ok := impl.ChunksGet(turnBit(text, bit)); len(list) != 0 || ok {
				t.Fatalf("%s, bit %d: %q %v", c.Name, bit, list, ok)
			}
		}
	}
	text := impl.ChunksPut([]impl.Chunk{{Name: "full", Body: someText(r, impl.TextMax-20)}})
	for range 300 {
		bit := 8*(8+4) + r.Intn(8*(len(text)-12))
		if list, ok := impl.ChunksGet(turnBit(text, bit)); len(list) != 0 || ok {
			t.Fatalf("bit %d: %v", bit, ok)
		}
	}
}

func TestPngPutByWords(t *testing.T) {
	for i, m := range pictures() {
		for k, w := range pngWays() {
			if m.Wide*m.High > 60 && (i+k)%4 > 0 {
				continue
			}
			laid, check := guardedPicture(m)
			got := w.put(laid)
			check(t, "PngPut")
			if got != pngByWords(m, w.filter, w.woven, w.pack) {
				t.Fatalf("picture %d, %v: %x", i, w, got)
			}
		}
	}
}

func TestPngPutOfWrongArguments(t *testing.T) {
	for i, m := range noPictures() {
		for _, w := range []pngWay{{0, false, 0}, {4, true, 2}} {
			if got := w.put(m); got != "" {
				t.Errorf("no picture %d: %x", i, got)
			}
		}
	}
	for i, m := range pictures() {
		if i%7 > 0 {
			continue
		}
		for _, n := range append([]int{-1, 5, 6, 255, 256}, extremes...) {
			for pack := range 3 {
				if impl.PngPut(m, n, false, pack) != "" || impl.PngPut(m, n, true, pack) != "" {
					t.Errorf("filter %d", n)
				}
			}
		}
		for _, n := range append([]int{-1, 3, 4, 255, 256}, extremes...) {
			for filter := range 5 {
				if impl.PngPut(m, filter, false, n) != "" || impl.PngPut(m, filter, true, n) != "" {
					t.Errorf("packing %d", n)
				}
			}
		}
	}
}

func TestPromise46APictureComesOutOfAPng(t *testing.T) {
	for i, m := range pictures() {
		for _, w := range pngWays() {
			if got, ok := impl.PngGet(w.put(m)); !ok || !samePicture(got, m) {
				t.Fatalf("picture %d, %v: %v %v, not %v", i, w, got, ok, m)
			}
		}
	}
}

func TestPromise47HoweverItIsWrittenTheSameComesOut(t *testing.T) {
	for i, m := range pictures() {
		texts := map[string]pngWay{}
		for k, w := range pngWays() {
			if m.Wide*m.High > 100 && (i+k)%3 > 0 {
				continue
			}
			text := w.put(m)
			got, ok := impl.PngGet(text)
			if !ok || !samePicture(got, m) {
				t.Fatalf("picture %d, %v: %v %v, not %v", i, w, got, ok, m)
			}
			texts[text] = w
		}
		if len(texts) < 5 {
			t.Fatalf("picture %d is written in %d ways", i, len(texts))
		}
	}
}

// Each size, woven: at many of them parts have no points.
func TestPngOfEachSize(t *testing.T) {
	r := dice(471)
	for wide := 1; wide <= impl.SizeMax; wide++ {
		for high := 1; high <= impl.SizeMax; high++ {
			kd := kindDepths[(wide*7+high)%len(kindDepths)]
			m := somePicture(r, kd[0], kd[1], wide, high, 2)
			for _, w := range []pngWay{{r.Intn(5), true, 1}, {r.Intn(5), false, 1}} {
				text := w.put(m)
				if got, ok := impl.PngGet(text); !ok || !samePicture(got, m) {
					t.Fatalf("%d, %d: %v %v, not %v", wide, high, got, ok, m)
				}
				checkLibraryReads(t, text, m)
			}
		}
	}
}

// checkLibraryReads holds what the library sees in a PNG against the colours of a picture.
func checkLibraryReads(t *testing.T, text string, m impl.Image) {
	t.Helper()
	seen, err := png.Decode(strings.NewReader(text))
	if err != nil {
		t.Fatalf("%v: %x", err, text)
	}
	if seen.Bounds() != image.Rect(0, 0, m.Wide, m.High) {
		t.Fatalf("%v, not %d, %d", seen.Bounds(), m.Wide, m.High)
	}
	for y := range m.High {
		for x := range m.Wide {
			c := color.NRGBAModel.Convert(seen.At(x, y)).(color.NRGBA)
			want := colorByWords(m, x, y)
			got := int(c.R)<<24 | int(c.G)<<16 | int(c.B)<<8 | int(c.A)
			if got != want {
				t.Fatalf("%d, %d: %x, not %x", x, y, got, want)
			}
		}
	}
}

func TestTheLibraryReadsWhatPngPutWrites(t *testing.T) {
	for i, m := range pictures() {
		for k, w := range pngWays() {
			if m.Wide*m.High < 30 || (i+k)%6 == 0 {
				checkLibraryReads(t, w.put(m), m)
			}
		}
	}
}

// libraryPicture is a picture as the library has it.
func libraryPicture(m impl.Image) image.Image {
	bounds := image.Rect(0, 0, m.Wide, m.High)
	switch m.Kind {
	case impl.KindGray:
		out := image.NewGray(bounds)
		for i, p := range m.Pix {
			out.Pix[i] = byte(p)
		}
		return out
	case impl.KindPal:
		var colors color.Palette
		for _, c := range m.Colors {
			colors = append(colors, color.RGBA{byte(c >> 16), byte(c >> 8), byte(c), 255})
		}
		out := image.NewPaletted(bounds, colors)
		for i, p := range m.Pix {
			out.Pix[i] = byte(p)
		}
		return out
	}
	out := image.NewNRGBA(bounds)
	for i, p := range m.Pix {
		if m.Kind == impl.KindRgb {
			p = p<<8 | 255
		}
		copy(out.Pix[4*i:], impl.NumPut(p, 4, true))
	}
	return out
}

func TestPngGetReadsWhatTheLibraryWrites(t *testing.T) {
	for i, m := range pictures() {
		// The library writes what is dense without saying how dense, and grays of eight bits alone.
		least := m.Kind == impl.KindPal && m.Depth > 1 && len(m.Colors) <= 1<<(m.Depth/2)
		if m.Kind == impl.KindGray && m.Depth != 8 || m.Kind == impl.KindRgba && isDense(m) || least {
			continue
		}
		for _, level := range []png.CompressionLevel{png.DefaultCompression, png.NoCompression, png.BestSpeed, png.BestCompression} {
			var out bytes.Buffer
			if err := (&png.Encoder{CompressionLevel: level}).Encode(&out, libraryPicture(m)); err != nil {
				t.Fatal(err)
			}
			if got, ok := impl.PngGet(out.String()); !ok || !samePicture(got, m) {
				t.Fatalf("picture %d: %v %v, not %v", i, got, ok, m)
			}
		}
	}
}

func TestPromise48WhatIsReadIsOkAndCanBeWrittenAgain(t *testing.T) {
	r := dice(481)
	read := map[bool]int{}
	look := func(text string) {
		t.Helper()
		ok := checkPng(t, "hurt", text)
		read[ok]++
		if !ok {
			return
		}
		m, _ := impl.PngGet(text)
		ways := pngWays()
		w := ways[r.Intn(len(ways))]
		if again, ok := impl.PngGet(w.put(m)); !impl.ImageOk(m) || !ok || !samePicture(again, m) {
			t.Fatalf("%x: %v, again %v %v", text, m, again, ok)
		}
		if more, ok := impl.PngGet(text + string([]byte{byte(r.Intn(256))})); ok || !isNothing(more) {
			t.Fatalf("%x: a byte may stand behind", text)
		}
	}
	for i, m := range pictures() {
		if m.Wide*m.High > 60 && i%5 > 0 {
			continue
		}
		woven := r.Intn(2) == 0
		data := rowsByWords(m, woven, func(int) int { return r.Intn(5) })
		list := pictureChunks(m, woven, impl.ZlibPut(data, r.Intn(3)))
		look(pieces(list...))
		for range 12 {
			look(hurt(r, pieces(list...)))
			bad := hurtPieces(r, list)
			if len(bad) > 0 && r.Intn(3) == 0 {
				bad = hurtPieces(r, bad)
			}
			look(pieces(bad...))
			// What is packed is another one, its sum is right.
			look(pieces(pictureChunks(m, woven, impl.ZlibPut(hurt(r, data), r.Intn(3)))...))
		}
	}
	if read[true] < 300 || read[false] < 300 {
		t.Errorf("so many were read: %v", read)
	}
}

// Each row may have a filter of its own.
func TestPngGetOfEachRowsFilter(t *testing.T) {
	r := dice(482)
	for _, kd := range kindDepths {
		m := somePicture(r, kd[0], kd[1], 11, 10, 2)
		for _, woven := range []bool{false, true} {
			for range 4 {
				kinds := make([]int, 30)
				for i := range kinds {
					kinds[i] = r.Intn(5)
				}
				data := rowsByWords(m, woven, func(row int) int { return kinds[row] })
				text := pieces(pictureChunks(m, woven, impl.ZlibPut(data, 1))...)
				if got, ok := impl.PngGet(text); !ok || !samePicture(got, m) {
					t.Fatalf("kind %d, depth %d, woven %v: %v %v, not %v", m.Kind, m.Depth, woven, got, ok, m)
				}
				checkLibraryReads(t, text, m)
			}
		}
	}
}

func TestPngGetOfFiltersThatAreNone(t *testing.T) {
	m := impl.Image{Kind: impl.KindGray, Depth: 8, Wide: 2, High: 3, Pix: []int{1, 2, 3, 4, 5, 6}}
	for _, woven := range []bool{false, true} {
		data := rowsByWords(m, woven, always(0))
		rows := []int{0, 3, 6}
		if woven {
			rows = nil
			at := 0
			for _, part := range partRows(2, 3, true) {
				for _, row := range part {
					rows = append(rows, at)
					at += 1 + len(row)
				}
			}
		}
		for _, at := range rows {
			for kind := range 256 {
				changed := []byte(data)
				changed[at] = byte(kind)
				checkPieces(t, fmt.Sprintf("filter %d", kind), pictureChunks(m, woven, impl.ZlibPut(string(changed), 0)), kind <= 4)
			}
		}
	}
}

func TestPromise49WhatIsPackedMayStandInSeveralPieces(t *testing.T) {
	r := dice(491)
	for i, m := range pictures() {
		if m.Wide*m.High > 12 {
			continue
		}
		w := pngWays()[i%30]
		list, _ := impl.ChunksGet(w.put(m))
		at := slices.IndexFunc(list, func(c impl.Chunk) bool { return c.Name == "IDAT" })
		body := list[at].Body
		look := func(what string, list []impl.Chunk) {
			t.Helper()
			if got, ok := impl.PngGet(impl.ChunksPut(list)); !ok || !samePicture(got, m) {
				t.Fatalf("picture %d, %s: %v %v, not %v", i, what, got, ok, m)
			}
		}
		for cut := range len(body) + 1 {
			two := insertAt(withBody(list, at, body[:cut]), at+1, impl.Chunk{Name: "IDAT", Body: body[cut:]})
			look("in two", two)
			if cut%5 == 0 {
				look("in two, and one that says nothing", insertAt(two, 1, impl.Chunk{Name: "teXt", Body: someText(r, cut)}))
				if got, ok := impl.PngGet(impl.ChunksPut(insertAt(two, at+1, impl.Chunk{Name: "teXt"}))); ok || !isNothing(got) {
					t.Fatalf("picture %d: another piece may stand between", i)
				}
			}
		}
		var single []impl.Chunk
		for k := range len(body) {
			single = append(single, impl.Chunk{Name: "IDAT", Body: body[k : k+1]}, impl.Chunk{Name: "IDAT"})
		}
		look("byte by byte", slices.Replace(slices.Clone(list), at, at+1, single...))
		look("an empty one ahead", insertAt(list, at, impl.Chunk{Name: "IDAT"}))
		look("one that says nothing ahead", insertAt(list, at, impl.Chunk{Name: "gAMA", Body: "1234"}))
	}
}

// grayPieces and listPieces are small pictures, piece by piece.
func grayPieces() []impl.Chunk {
	m := impl.Image{Kind: impl.KindGray, Depth: 8, Wide: 2, High: 1, Pix: []int{7, 200}}
	return pictureChunks(m, false, impl.ZlibPut("\x00\x07\xc8", 1))
}

func listPieces() []impl.Chunk {
	m := impl.Image{Kind: impl.KindPal, Depth: 2, Wide: 3, High: 2, Colors: []int{16711680, 65280, 255}, Pix: []int{0, 1, 2, 2, 1, 0}}
	return pictureChunks(m, false, impl.ZlibPut("\x00\x18\x00\x90", 1))
}

func TestPngGetOfOtherPieces(t *testing.T) {
	checkPieces(t, "gray", grayPieces(), true)
	checkPieces(t, "of a list", listPieces(), true)
	small := []string{"tEXt", "teXt", "aaaa", "zzzz", "aZZZ", "iHDR", "pLTE", "iDAT", "iEND", "tRNs", "trns", "tRnS", "uRNS", "gAMA", "pHYs", "bKGD"}
	great := []string{"ABCD", "AAAA", "ZZZZ", "Zzzz", "Aaaa", "TRNS", "IDAt", "Idat", "IHDr", "PLTe", "IENd", "IEnd", "TEXt"}
	for _, list := range [][]impl.Chunk{grayPieces(), listPieces()} {
		for at := range len(list) + 1 {
			for _, body := range []string{"", "x", "\x00\x00\x00"} {
				for _, name := range small {
					more := insertAt(list, at, impl.Chunk{Name: name, Body: body})
					checkPieces(t, name, more, at > 0 && at < len(list))
					if at > 0 && at < len(list) {
						// Two and more of them say nothing, too.
						checkPieces(t, name, insertAt(more, at, impl.Chunk{Name: "zzzz"}, impl.Chunk{Name: name}), true)
						checkPieces(t, name, insertAt(more, 1, impl.Chunk{Name: "aAAA"}), true)
					}
				}
				for _, name := range append(great, "tRNS") {
					checkPieces(t, name, insertAt(list, at, impl.Chunk{Name: name, Body: body}), false)
					// Not behind one that says nothing, either.
					checkPieces(t, name, insertAt(list, at, impl.Chunk{Name: "zzzz"}, impl.Chunk{Name: name, Body: body}), false)
				}
			}
		}
		for i := range list {
			checkPieces(t, "left out", slices.Delete(slices.Clone(list), i, i+1), false)
			if list[i].Name != "IDAT" {
				checkPieces(t, "twice", insertAt(list, i, list[i]), false)
			}
			for k := range i {
				other := slices.Clone(list)
				other[i], other[k] = other[k], other[i]
				checkPieces(t, "in another order", other, false)
			}
			for _, name := range append(slices.Concat(small, great), "tRNS") {
				other := slices.Clone(list)
				other[i].Name = name
				checkPieces(t, "another name", other, false)
			}
		}
	}
	checkPieces(t, "none", nil, false)
	checkPieces(t, "IEND alone", []impl.Chunk{{Name: "IEND"}}, false)
	checkPieces(t, "IHDR alone", grayPieces()[:1], false)
}

func TestPngGetOfItsEnd(t *testing.T) {
	for _, list := range [][]impl.Chunk{grayPieces(), listPieces()} {
		last := len(list) - 1
		checkPieces(t, "no IEND", list[:last], false)
		for _, body := range []string{"\x00", "x", "some text"} {
			checkPieces(t, "IEND that is not empty", withBody(list, last, body), false)
		}
		checkPieces(t, "IEND twice", append(slices.Clone(list), impl.Chunk{Name: "IEND"}), false)
		checkPieces(t, "IEND ahead of all", insertAt(list, 0, impl.Chunk{Name: "IEND"}), false)
		checkPieces(t, "IEND that is not last", append(slices.Clone(list), impl.Chunk{Name: "teXt"}), false)
		checkPieces(t, "IDAT behind IEND", append(slices.Clone(list), impl.Chunk{Name: "IDAT"}), false)
		checkPieces(t, "one that says nothing for IEND", insertAt(list[:last], last, impl.Chunk{Name: "iEND"}), false)
		for _, more := range []string{"\x00", "\n", "x", "\x00\x00\x00\x00", pngBegin} {
			if checkPng(t, "behind", pieces(list...)+more) {
				t.Errorf("%x may stand behind", more)
			}
		}
	}
}

func TestPngGetOfColours(t *testing.T) {
	r := dice(483)
	for _, depth := range []int{1, 2, 4, 8} {
		full := 1 << depth
		for count := range full + 3 {
			// All points are the first colour: each list that has one is enough for them.
			m := impl.Image{Kind: impl.KindPal, Depth: depth, Wide: 2, High: 2, Pix: same(0, 4), Colors: someNumbersBelow(r, count, 1<<24)}
			checkPieces(t, fmt.Sprintf("depth %d, %d colours", depth, count), pictureChunks(m, false, impl.ZlibPut(rowsByWords(m, false, always(0)), 1)), count >= 1 && count <= full)
			if count >= 1 && count <= full {
				// A point that has its colour just not, and just so.
				m.Pix = []int{0, count - 1, 0, 0}
				checkPieces(t, "the last colour", pictureChunks(m, true, impl.ZlibPut(rowsByWords(m, true, always(0)), 1)), true)
			}
			if count >= 1 && count < full {
				for at := range 4 {
					m.Pix = same(0, 4)
					m.Pix[at] = count
					checkPieces(t, "no such colour", pictureChunks(m, true, impl.ZlibPut(rowsByWords(m, true, always(0)), 1)), false)
				}
			}
		}
		list := pictureChunks(impl.Image{Kind: impl.KindPal, Depth: depth, Wide: 1, High: 1}, false, impl.ZlibPut("\x00\x00", 1))
		for size := range 3*full + 8 {
			checkPieces(t, fmt.Sprintf("%d bytes of colours", size), withBody(list, 1, someText(r, size)), size%3 == 0 && size >= 3 && size <= 3*full)
		}
	}
	list := listPieces()
	checkPieces(t, "colours twice", insertAt(list, 1, list[1]), false)
	checkPieces(t, "other colours, too", insertAt(list, 2, impl.Chunk{Name: "PLTE", Body: "abc"}), false)
	checkPieces(t, "colours twice, apart", insertAt(list, 2, impl.Chunk{Name: "teXt"}, list[1]), false)
	checkPieces(t, "colours behind, too", insertAt(list, 3, list[1]), false)
	checkPieces(t, "colours between", insertAt(list, 3, list[1], impl.Chunk{Name: "IDAT"}), false)
	checkPieces(t, "colours behind alone", []impl.Chunk{list[0], list[2], list[1], list[3]}, false)
	checkPieces(t, "colours ahead of all", []impl.Chunk{list[1], list[0], list[2], list[3]}, false)
	for _, kd := range kindDepths {
		if kd[0] == impl.KindPal {
			continue
		}
		m := somePicture(r, kd[0], kd[1], 3, 2, 0)
		list := pictureChunks(m, false, impl.ZlibPut(rowsByWords(m, false, always(1)), 2))
		checkPieces(t, "no colours", list, true)
		for at := 1; at < len(list); at++ {
			for _, body := range []string{"abc", "", "abcdef", "a"} {
				checkPieces(t, "colours", insertAt(list, at, impl.Chunk{Name: "PLTE", Body: body}), false)
			}
		}
	}
}

// Each byte of the head, and each number in it, with rows that would do, if it were so.
func TestPngGetOfHeads(t *testing.T) {
	for _, list := range [][]impl.Chunk{grayPieces(), listPieces()} {
		head := list[0].Body
		for at := range 13 {
			for b := range 256 {
				other := []byte(head)
				other[at] = byte(b)
				checkPng(t, "head", pieces(withBody(list, 0, string(other))...))
			}
		}
		for size := range 13 {
			checkPieces(t, "a short head", withBody(list, 0, head[:size]), false)
		}
		for _, more := range []string{"\x00", "\x01", "some text"} {
			checkPieces(t, "a long head", withBody(list, 0, head+more), false)
		}
	}
	plte := impl.Chunk{Name: "PLTE", Body: strings.Repeat("\x00", 6)}
	end := impl.Chunk{Name: "IEND"}
	for bits := range 34 {
		for sort := range 10 {
			// One point has so many bytes at most; each such number of bytes is tried.
			read := 0
			for size := range 10 {
				list := []impl.Chunk{{Name: "IHDR", Body: headByWords(1, 1, bits, sort, 0, 0, 0)}, {Name: "IDAT", Body: impl.ZlibPut(strings.Repeat("\x00", size), 0)}, end}
				if sort == 3 {
					list = insertAt(list, 1, plte)
				}
				if checkPng(t, "bits and kind", pieces(list...)) {
					read++
				}
			}
			narrow := bits == 1 || bits == 2 || bits == 4 || bits == 8
			wantOk := narrow && (sort == 0 || sort == 3) || bits == 8 && (sort == 2 || sort == 6)
			if (read == 1) != wantOk || read > 1 {
				t.Errorf("%d bits, kind %d: %d are read", bits, sort, read)
			}
		}
	}
	for _, c := range []struct {
		wide int
		high int
	}{{0, 1}, {1, 0}, {0, 0}, {20, 20}, {21, 1}, {1, 21}, {21, 21}, {22, 1}, {256, 1}, {1, 256}, {257, 1}, {65537, 1}, {1 << 24, 1}, {1<<24 + 1, 1}, {1, 1<<24 + 1}, {1<<31 - 1, 1}, {1 << 31, 1}, {1, 1 << 31}, {1<<32 - 1, 1<<32 - 1}, {1<<31 + 1, 1}, {1<<32 - 20, 1}, {20, 1<<32 - 1}, {1<<32 - 1, 20}} {
		for _, size := range []int{c.high % 256 * (1 + c.wide%256), c.high * (1 + c.wide), 0, 2, 21} {
			if size < 0 || size > impl.OutMax {
				continue
			}
			for woven := range 2 {
				list := []impl.Chunk{{Name: "IHDR", Body: headByWords(c.wide, c.high, 8, 0, 0, 0, woven)}, {Name: "IDAT", Body: impl.ZlibPut(strings.Repeat("\x00", size), 0)}, end}
				if ok := checkPng(t, "size", pieces(list...)); ok && (c.wide != 20 || c.high != 20) {
					t.Errorf("%d, %d is read", c.wide, c.high)
				}
			}
		}
	}
}

// What is packed makes just as many bytes as all rows have.
func TestPngGetOfMoreAndFewerBytes(t *testing.T) {
	r := dice(484)
	for i, m := range pictures() {
		if m.Wide*m.High > 150 && i%10 > 0 || i%3 == 1 {
			continue
		}
		for _, woven := range []bool{false, true} {
			data := rowsByWords(m, woven, always(i%5))
			look := func(what string, packed string, wantOk bool) {
				t.Helper()
				checkPieces(t, what, pictureChunks(m, woven, packed), wantOk)
			}
			for pack := range 3 {
				look("all", impl.ZlibPut(data, pack), true)
				look("one less", impl.ZlibPut(data[:len(data)-1], pack), false)
				look("one more", impl.ZlibPut(data+"\x00", pack), false)
				look("none", impl.ZlibPut("", pack), false)
				look("much more", impl.ZlibPut(data+strings.Repeat("\x00", impl.OutMax-len(data)), pack), false)
			}
			good := impl.ZlibPut(data, i%3)
			look("behind", good+"\x00", false)
			look("less", good[:len(good)-1], false)
			look("empty", "", false)
			look("another sum", good[:len(good)-4]+impl.NumPut(impl.Adler32(data)^1, 4, true), false)
			look("another head", "\x78\x02"+good[2:], false)
			look("another head of the library", "\x78\x9c"+good[2:], true)
			look("text", someText(r, 40), false)
			other := partRows(m.Wide, m.High, !woven)
			size := 0
			for _, part := range other {
				for _, row := range part {
					size += 1 + (len(row)*m.Depth+7)/8
				}
			}
			if size != len(data) {
				look("as many as the other way", impl.ZlibPut(strings.Repeat("\x00", size), 0), false)
			}
		}
	}
}

// What the last byte of a row has behind its points says nothing of these, but filters go over it.
func TestPngGetOfWhatFillsARowUp(t *testing.T) {
	m := impl.Image{Kind: impl.KindGray, Depth: 1, Wide: 3, High: 2, Pix: []int{1, 0, 1, 0, 1, 1}}
	for spare := range 32 {
		first, second := 0xa0|spare, 0x60|(31-spare)
		plain := string([]byte{0, byte(first), 0, byte(second)})
		up := string([]byte{0, byte(first), 2, byte(second - first)})
		for _, data := range []string{plain, up} {
			text := pieces(pictureChunks(m, false, impl.ZlibPut(data, 0))...)
			checkPng(t, "filled up", text)
			if got, ok := impl.PngGet(text); !ok || !samePicture(got, m) {
				t.Errorf("%x: %v %v", data, got, ok)
			}
		}
	}
	r := dice(485)
	for _, kd := range kindDepths {
		for wide := 1; wide <= 9; wide++ {
			for _, woven := range []bool{false, true} {
				m := somePicture(r, kd[0], kd[1], wide, 5, 1<<min(8, kd[1]))
				size := len(rowsByWords(m, woven, always(0)))
				data := []byte(someText(r, size))
				at := 0
				for _, part := range partRows(wide, 5, woven) {
					for _, row := range part {
						data[at] %= 5
						at += 1 + (len(row)*m.Depth+7)/8
					}
				}
				checkPieces(t, "any bytes", pictureChunks(m, woven, impl.ZlibPut(string(data), 1)), true)
			}
		}
	}
}

// The library packs in ways of its own, with several blocks.
func TestPngGetOfWhatTheLibraryPacks(t *testing.T) {
	r := dice(486)
	for i, m := range pictures() {
		woven := i%2 == 0
		data := rowsByWords(m, woven, func(int) int { return r.Intn(5) })
		var out bytes.Buffer
		w := zlib.NewWriter(&out)
		half := r.Intn(len(data))
		w.Write([]byte(data[:half]))
		w.Flush()
		w.Write([]byte(data[half:]))
		w.Close()
		text := pieces(pictureChunks(m, woven, out.String())...)
		if got, ok := impl.PngGet(text); !ok || !samePicture(got, m) {
			t.Fatalf("picture %d: %v %v, not %v", i, got, ok, m)
		}
	}
}

func TestPngGetOfLongTexts(t *testing.T) {
	list := grayPieces()
	spare := impl.TextMax - len(pieces(list...)) - 12
	full := insertAt(list, 1, impl.Chunk{Name: "long", Body: strings.Repeat("x", spare)})
	if text := pieces(full...); len(text) != impl.TextMax || !checkPng(t, "full", text) {
		t.Error("a text of all bytes is not read")
	}
	over := withBody(full, 1, strings.Repeat("x", spare+1))
	if text := pieces(over...); checkPng(t, "over", text) {
		t.Error("a text of more bytes is read")
	}
	many := slices.Repeat([]impl.Chunk{{Name: "IDAT"}}, (impl.TextMax-len(pieces(list...)))/12)
	if !checkPng(t, "many", pieces(insertAt(list, 1, many...)...)) {
		t.Error("many empty pieces")
	}
	for _, text := range []string{"", pngBegin, strings.Repeat("\x00", impl.TextMax), strings.Repeat(pngBegin, 2000)} {
		if checkPng(t, "no picture", text) {
			t.Errorf("%d bytes are read", len(text))
		}
	}
}

func TestPngGetOfEachBit(t *testing.T) {
	for _, list := range [][]impl.Chunk{grayPieces(), listPieces()} {
		text := pieces(list...)
		for bit := range 8 * len(text) {
			if checkPng(t, "a bit", turnBit(text, bit)) {
				t.Errorf("bit %d does not matter", bit)
			}
		}
		for size := range len(text) {
			if checkPng(t, "cut off", text[:size]) {
				t.Errorf("%d bytes are enough", size)
			}
		}
	}
}

func TestPngOfAnyText(t *testing.T) {
	r := dice(487)
	for range 2000 {
		text := someText(r, r.Intn(60))
		if r.Intn(2) == 0 {
			text = pngBegin + text
		}
		checkChunks(t, "any text", text)
		checkPng(t, "any text", text)
	}
}

func TestPngAnswersAreNewMemory(t *testing.T) {
	for range 2 {
		list := impl.PassesOf(3, 2)
		if fmt.Sprint(list) != "[{0 0 8 8 1 1} {2 0 4 4 1 1} {1 0 2 2 1 1} {0 1 1 2 3 1}]" {
			t.Fatalf("%v", list)
		}
		spoil(list, impl.Pass{X: 9})
	}
	text := pieces(listPieces()...)
	for range 2 {
		list, ok := impl.ChunksGet(text)
		if !slices.Equal(list, listPieces()) || !ok {
			t.Fatalf("%q %v", list, ok)
		}
		for _, c := range list {
			if sharesText(c.Name, text) || sharesText(c.Body, text) {
				t.Errorf("%s has memory of the text", c.Name)
			}
		}
		spoil(list, impl.Chunk{Name: "gone"})
	}
	for range 2 {
		m, ok := impl.PngGet(text)
		if !ok || !slices.Equal(m.Colors, []int{16711680, 65280, 255}) || !slices.Equal(m.Pix, []int{0, 1, 2, 2, 1, 0}) {
			t.Fatalf("%v %v", m, ok)
		}
		pix := slices.Clone(m.Pix)
		spoil(m.Colors, 77)
		if !slices.Equal(m.Pix, pix) {
			t.Error("both lists share memory")
		}
		spoil(m.Pix, 78)
	}
	row, above := strings.Repeat("ab", 50), strings.Repeat("\x00", 100)
	for kind := range 5 {
		for _, above := range []string{"", above} {
			for _, got := range []string{impl.FilterPut(kind, row, above, 1), impl.FilterGet(kind, row, above, 1)} {
				if sharesText(got, row) || sharesText(got, above) {
					t.Errorf("kind %d: memory of an argument", kind)
				}
			}
		}
	}
}

// No two calls know of each other, even at the same time.
func TestPngAtTheSameTime(t *testing.T) {
	done := make(chan string)
	work := func(r *rand.Rand) {
		for range 20 {
			kd := kindDepths[r.Intn(len(kindDepths))]
			m := somePicture(r, kd[0], kd[1], 1+r.Intn(20), 1+r.Intn(20), 2)
			w := pngWays()[r.Intn(30)]
			if got, ok := impl.PngGet(w.put(m)); !ok || !samePicture(got, m) {
				done <- fmt.Sprintf("%v: %v %v, not %v", w, got, ok, m)
				return
			}
		}
		done <- ""
	}
	for i := range 8 {
		go work(dice(int64(4880 + i)))
	}
	for range 8 {
		if wrong := <-done; wrong != "" {
			t.Error(wrong)
		}
	}
}
