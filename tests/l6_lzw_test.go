package tests

import (
	"bytes"
	"compress/lzw"
	"io"
	"slices"
	"strings"
	"testing"

	"loop.example/intarsia/impl"
)

// checkLzw holds what LzwGet and LzwCodes tell against the words of the document, and tells the code.
func checkLzw(t *testing.T, what string, text string, way lzwWay, limit int) int {
	t.Helper()
	want, wantNumbers, wantCode := lzwGetByWords(text, way, limit)
	out, code := impl.LzwGet(text, way.bits, way.wide, limit)
	if out != want || code != wantCode {
		t.Fatalf("%s, %v, %d: %d bytes %d, not %d %d", what, way, limit, len(out), code, len(want), wantCode)
	}
	if limit == impl.OutMax {
		if numbers := impl.LzwCodes(text, way.bits, way.wide); !slices.Equal(numbers, wantNumbers) {
			t.Fatalf("%s, %v: numbers %v, not %v", what, way, numbers, wantNumbers)
		}
	}
	return code
}

func TestPromise22WhatWasPackedByLzwComesOut(t *testing.T) {
	r := dice(221)
	for _, way := range lzwWays {
		for i, text := range lzwTexts(way) {
			packed := impl.LzwPut(text, way.bits, way.wide)
			if want := lzwNumbers(way, lzwPutByWords(text, way)...); packed != want {
				t.Fatalf("%v, text %d: %d bytes, not %d", way, i, len(packed), len(want))
			}
			for _, behind := range []string{"", "\x00", "\xff", someText(r, 20)} {
				for _, limit := range []int{len(text), impl.OutMax} {
					if out, code := impl.LzwGet(packed+behind, way.bits, way.wide, limit); out != text || code != impl.GetDone {
						t.Fatalf("%v, text %d: %d bytes %d", way, i, len(out), code)
					}
				}
			}
		}
	}
}

// A GIF's LZW is the library's too, as long as it is not wide.
func TestLzwIsTheLibrarys(t *testing.T) {
	for _, way := range lzwWays {
		if way.wide {
			continue
		}
		for i, text := range lzwTexts(way) {
			library := lzw.NewReader(strings.NewReader(impl.LzwPut(text, way.bits, false)), lzw.LSB, way.bits)
			if out, err := io.ReadAll(library); err != nil || string(out) != text {
				t.Fatalf("%v, text %d: the library says %v", way, i, err)
			}
			var packed bytes.Buffer
			w := lzw.NewWriter(&packed, lzw.LSB, way.bits)
			io.WriteString(w, text)
			w.Close()
			if out, code := impl.LzwGet(packed.String(), way.bits, false, impl.OutMax); out != text || code != impl.GetDone {
				t.Fatalf("%v, text %d, packed by the library: %d bytes %d", way, i, len(out), code)
			}
		}
	}
}

func TestLzwPutByHand(t *testing.T) {
	for _, c := range []struct {
		text string
		way  lzwWay
		want string
	}{
		// clear 100, end 101, as numbers of three bits.
		{"", lzwWay{2, false}, textOf(low(4, 3) + low(5, 3))},
		{"", lzwWay{7, false}, textOf(low(128, 8) + low(129, 8))},
		{"", lzwWay{8, false}, textOf(low(256, 9) + low(257, 9))},
		{"", lzwWay{8, true}, highText(figures(256, 9, true) + figures(257, 9, true))},
		{"\x03", lzwWay{2, false}, textOf(low(4, 3) + low(3, 3) + low(5, 3))},
		// 6 is known only next; then whoever reads knows 7, then 8.
		{"\x00\x00\x00", lzwWay{2, false}, textOf(low(4, 3) + low(0, 3) + low(6, 3) + low(5, 3))},
		{"\x00\x00\x00\x00\x00\x00", lzwWay{2, false}, textOf(low(4, 3) + low(0, 3) + low(6, 3) + low(7, 3) + low(5, 4))},
		{"\x00\x01\x02\x03", lzwWay{2, false}, textOf(low(4, 3) + low(0, 3) + low(1, 3) + low(2, 3) + low(3, 4) + low(5, 4))},
		{"aaaaab", lzwWay{8, true}, "\x80\x18\x60\x50\x23\x14\x04"},
		{"\x01\x01\x01\x02\x02\x02\x02", lzwWay{2, false}, "\x8c\x85\x52"},
	} {
		if got := impl.LzwPut(c.text, c.way.bits, c.way.wide); got != c.want {
			t.Errorf("%q, %v: %x, not %x", c.text, c.way, got, c.want)
		}
	}
}

// Of a text without a pair that comes again each byte is a number, so that all widths are known by how many came since clear.
func TestLzwWidthsGrow(t *testing.T) {
	for _, c := range []struct {
		wide bool
		upTo [3]int // how many numbers since clear are of 9, 10 and 11 bits at most
		full int    // how many bytes make clear come again
	}{{false, [3]int{255, 767, 1791}, 3837}, {true, [3]int{254, 766, 1790}, 3836}} {
		for _, size := range []int{0, 1, 2, 252, 253, 254, 255, 256, 764, 765, 766, 767, 768, 1788, 1789, 1790, 1791, 1792, 3834, 3835, 3836, 3837, 3838, 3839, 3840, 4095, impl.OutMax} {
			text := unlikePairs(size)
			packed := impl.LzwPut(text, 8, c.wide)
			bits, since := 9, 0
			width := func() int {
				since++
				switch {
				case since <= c.upTo[0]:
					return 9
				case since <= c.upTo[1]:
					return 10
				case since <= c.upTo[2]:
					return 11
				}
				return 12
			}
			clears := 1
			for i := range size {
				bits += width()
				if i+1 == c.full && size > c.full {
					bits += width()
					since = 0
					clears++
				}
			}
			bits += width()
			if len(packed) != (bits+7)/8 {
				t.Errorf("%d bytes, wide %v: %d, not %d", size, c.wide, len(packed), (bits+7)/8)
			}
			numbers := impl.LzwCodes(packed, 8, c.wide)
			if len(numbers) != size+1+clears {
				t.Errorf("%d bytes, wide %v: %d numbers", size, c.wide, len(numbers))
			}
			if clears == 2 && numbers[c.full+1] != 256 {
				t.Errorf("%d bytes, wide %v: no clear at %d", size, c.wide, c.full)
			}
		}
	}
}

func TestLzwPutWrong(t *testing.T) {
	for _, way := range noLzwWays() {
		for _, text := range []string{"", "\x00", "\x00\x01", "abc"} {
			if got := impl.LzwPut(text, way.bits, way.wide); got != "" {
				t.Errorf("%v: %x", way, got)
			}
		}
	}
	for _, way := range lzwWays {
		for _, b := range []int{1 << way.bits, 1<<way.bits + 1, 255} {
			if way.bits == 8 {
				continue
			}
			for _, text := range []string{string([]byte{byte(b)}), "\x01" + string([]byte{byte(b)}), string([]byte{byte(b)}) + "\x01", strings.Repeat("\x01", impl.OutMax-1) + string([]byte{byte(b)})} {
				if got := impl.LzwPut(text, way.bits, way.wide); got != "" {
					t.Errorf("%v, byte %d: %x", way, b, got)
				}
			}
		}
		most := strings.Repeat("\x00\x01\x03\x02\x03", impl.OutMax/5)
		if impl.LzwPut(most, way.bits, way.wide) == "" {
			t.Errorf("%v: OutMax bytes are refused", way)
		}
		for _, text := range []string{most + "\x00", strings.Repeat("\x00", impl.TextMax), strings.Repeat("\x00", 100000)} {
			if got := impl.LzwPut(text, way.bits, way.wide); got != "" {
				t.Errorf("%v: %d bytes are taken", way, len(text))
			}
		}
	}
}

func TestLzwGetByHand(t *testing.T) {
	two := lzwWay{2, false}
	low8, wide8 := lzwWay{8, false}, lzwWay{8, true}
	for _, c := range []struct {
		what    string
		way     lzwWay
		numbers []int
		out     string
		code    int
	}{
		{"end at once", two, []int{5}, "", 0},
		{"clear and end", two, []int{4, 5}, "", 0},
		{"clears", two, []int{4, 4, 4, 4, 5}, "", 0},
		{"no clear ahead", two, []int{1, 2, 5}, "\x01\x02", 0},
		{"one that is known", two, []int{4, 1, 2, 6, 5}, "\x01\x02\x01\x02", 0},
		{"one that is known only next", two, []int{4, 1, 6, 5}, "\x01\x01\x01", 0},
		{"known only next, of a longer one", two, []int{4, 1, 2, 6, 8, 5}, "\x01\x02\x01\x02\x01\x02\x01", 0},
		{"known only next, again and again", two, []int{4, 1, 6, 7, 8, 9, 5}, strings.Repeat("\x01", 15), 0},
		{"next as the first", two, []int{6, 5}, "", impl.GetBad},
		{"next as the first behind clear", two, []int{4, 6, 5}, "", impl.GetBad},
		{"next behind a later clear", two, []int{4, 1, 1, 4, 6, 5}, "", impl.GetBad},
		{"what was forgotten comes to be another one", two, []int{4, 1, 1, 4, 2, 6, 5}, "\x01\x01\x02\x02\x02", 0},
		{"one above the next", two, []int{4, 1, 7, 5}, "", impl.GetBad},
		{"one above the next, later", two, []int{4, 1, 2, 6, 9, 5}, "", impl.GetBad},
		{"as far above as can be", two, []int{4, 1, 2, 3, 15, 5}, "", impl.GetBad},
		{"no end", two, []int{4, 1, 2}, "", impl.GetShort},
		{"low 8", low8, []int{256, 'a', 258, 'b', 257}, "aaab", 0},
		{"low 8, above the next", low8, []int{256, 'a', 259, 257}, "", impl.GetBad},
		{"low 8, as far above as can be", low8, []int{256, 'a', 511, 257}, "", impl.GetBad},
		{"wide", wide8, []int{256, 'a', 258, 'b', 257}, "aaab", 0},
		{"wide, above the next", wide8, []int{256, 'a', 259, 257}, "", impl.GetBad},
		{"wide, next as the first", wide8, []int{258, 257}, "", impl.GetBad},
	} {
		text := lzwNumbers(c.way, c.numbers...)
		out, code := impl.LzwGet(text, c.way.bits, c.way.wide, impl.OutMax)
		if out != c.out || code != c.code {
			t.Errorf("%s: %x %d", c.what, out, code)
		}
		numbers := impl.LzwCodes(text, c.way.bits, c.way.wide)
		if c.code == impl.GetDone && !slices.Equal(numbers, c.numbers) || c.code != impl.GetDone && len(numbers) > 0 {
			t.Errorf("%s: numbers %v", c.what, numbers)
		}
		checkLzw(t, c.what, text, c.way, impl.OutMax)
	}
}

// When 4096 are known none comes to be known any more, and all stay.
func TestLzwGetWhenAllAreKnown(t *testing.T) {
	for _, way := range []lzwWay{{8, false}, {8, true}} {
		for _, count := range []int{3835, 3836, 3837, 3838, 3839, 3840, 3841, 3900} {
			bytes := unlikePairs(count)
			numbers := []int{256}
			for i := range count {
				numbers = append(numbers, int(bytes[i]))
			}
			known := min(258+count-1, 4096)
			// The last that is known, the next (if there is one), and, behind some more, the last ones again.
			numbers = append(numbers, known-1, min(known+1, 4095), 7, 9, 4095, 4095, 4094, 300, 257)
			text := lzwNumbers(way, numbers...)
			out, code := impl.LzwGet(text, 8, way.wide, impl.OutMax)
			want, _, wantCode := lzwGetByWords(text, way, impl.OutMax)
			if out != want || code != wantCode {
				t.Errorf("%v, %d: %d bytes %d, not %d %d", way, count, len(out), code, len(want), wantCode)
			}
			if known == 4096 && (code != impl.GetDone || !strings.HasSuffix(out, "\x07\x09"+bytes[3837:3839]+bytes[3837:3839]+bytes[3836:3838]+bytes[42:44])) {
				t.Errorf("%v, %d: code %d", way, count, code)
			}
			checkLzw(t, "all known", text, way, impl.OutMax)
		}
	}
}

func TestPromise23NeverMoreThanItMayByLzw(t *testing.T) {
	r := dice(231)
	codes := [4]int{}
	for i := range 6000 {
		way := lzwWays[i%len(lzwWays)]
		text := ""
		switch r.Intn(4) {
		case 0:
			text = someText(r, r.Intn(30))
		case 1:
			text = hurt(r, impl.LzwPut(narrow(patchwork(r, r.Intn(300)), way.bits), way.bits, way.wide))
		default:
			text = hurt(r, lzwNumbers(way, someNumbers(r, way)...))
		}
		limit := impl.OutMax
		if r.Intn(2) == 0 {
			limit = r.Intn(300)
		}
		codes[checkLzw(t, "any text", text, way, limit)]++
		out, code := impl.LzwGet(text, way.bits, way.wide, limit)
		if code != impl.GetDone {
			if out != "" {
				t.Fatalf("%x, %v: %d bytes beside %d", text, way, len(out), code)
			}
			continue
		}
		if len(out) > limit || narrow(out, way.bits) != out {
			t.Fatalf("%x, %v: %x", text, way, out)
		}
		for _, less := range []int{0, len(out) / 2, len(out) - 1} {
			if less < 0 || less >= len(out) {
				continue
			}
			if short, code := impl.LzwGet(text, way.bits, way.wide, less); short != "" || code != impl.GetLong {
				t.Fatalf("%x, %v, %d: %d", text, way, less, code)
			}
		}
		for _, enough := range []int{len(out), len(out) + 1, impl.OutMax} {
			if again, code := impl.LzwGet(text, way.bits, way.wide, min(enough, impl.OutMax)); again != out || code != impl.GetDone {
				t.Fatalf("%x, %v, %d: %d", text, way, enough, code)
			}
		}
	}
	for code, count := range codes {
		if count < 200 {
			t.Errorf("code %d came %d times", code, count)
		}
	}
}

func TestLzwGetOfWhatIsCutOff(t *testing.T) {
	for _, way := range lzwWays {
		for _, text := range []string{"", "\x01", "\x01\x01\x01\x01", "\x00\x01\x02\x03\x03\x02\x01\x00", narrow(patchwork(dice(61), 700), way.bits)} {
			packed := impl.LzwPut(text, way.bits, way.wide)
			for k := range len(packed) {
				out, code := impl.LzwGet(packed[:k], way.bits, way.wide, impl.OutMax)
				if out != "" || code != impl.GetShort || len(impl.LzwCodes(packed[:k], way.bits, way.wide)) != 0 {
					t.Fatalf("%v, %d of %d bytes: %d", way, k, len(packed), code)
				}
			}
		}
	}
}

func TestLzwGetWhatIsMetFirst(t *testing.T) {
	for _, c := range []struct {
		what    string
		numbers []int
		limit   int
		code    int
	}{
		{"room ends ahead of a bad one", []int{4, 1, 2, 6, 9, 5}, 3, impl.GetLong},
		{"a bad one as the room ends", []int{4, 1, 2, 6, 9, 5}, 4, impl.GetBad},
		{"the end as the room ends", []int{4, 1, 2, 5}, 2, impl.GetDone},
		{"clear as the room ends", []int{4, 1, 2, 4, 5}, 2, impl.GetDone},
		{"no room for a whole text", []int{4, 1, 2, 6, 5}, 3, impl.GetLong},
		{"no room for any of a text", []int{4, 1, 2, 6, 5}, 2, impl.GetLong},
		{"room for a whole text", []int{4, 1, 2, 6, 5}, 4, impl.GetDone},
		{"no room for one known next", []int{4, 1, 6, 5}, 2, impl.GetLong},
		{"room for one known next", []int{4, 1, 6, 5}, 3, impl.GetDone},
		{"no room at all", []int{4, 1, 5}, 0, impl.GetLong},
		{"no room at all, and bad", []int{4, 6, 5}, 0, impl.GetBad},
		{"no room at all, nothing put out", []int{4, 5}, 0, impl.GetDone},
		{"no room, and too short", []int{4, 1, 1, 1}, 2, impl.GetLong},
		{"too short as the room ends", []int{4, 1, 1, 1, 1}, 4, impl.GetShort},
	} {
		text := lzwNumbers(lzwWay{2, false}, c.numbers...)
		if out, code := impl.LzwGet(text, 2, false, c.limit); code != c.code || code != 0 && out != "" {
			t.Errorf("%s: %q %d", c.what, out, code)
		}
	}
}

func TestLzwGetLimits(t *testing.T) {
	for _, way := range lzwWays {
		for _, size := range []int{0, 1, 300, impl.OutMax} {
			text := narrow(patchwork(dice(int64(size)), size), way.bits)
			packed := impl.LzwPut(text, way.bits, way.wide)
			full := packed + strings.Repeat("\xff", impl.TextMax-len(packed))
			if out, code := impl.LzwGet(full, way.bits, way.wide, impl.OutMax); out != text || code != impl.GetDone {
				t.Errorf("%v, %d bytes: %d of TextMax", way, size, code)
			}
			if len(impl.LzwCodes(full, way.bits, way.wide)) == 0 {
				t.Errorf("%v, %d bytes: no numbers of TextMax", way, size)
			}
			if out, code := impl.LzwGet(full+"\x00", way.bits, way.wide, impl.OutMax); out != "" || code != impl.GetBad {
				t.Errorf("%v, %d bytes: %d of one more than TextMax", way, size, code)
			}
			if numbers := impl.LzwCodes(full+"\x00", way.bits, way.wide); len(numbers) != 0 {
				t.Errorf("%v, %d bytes: numbers of one more than TextMax", way, size)
			}
			for _, limit := range append([]int{-1, impl.OutMax + 1, impl.TextMax}, extremes...) {
				if out, code := impl.LzwGet(packed, way.bits, way.wide, limit); out != "" || code != impl.GetBad {
					t.Errorf("%v, limit %d: %d", way, limit, code)
				}
			}
		}
		// One more than OutMax, by a byte, and by a text: GetLong, and no numbers.
		clear := 1 << way.bits
		bytes := slices.Repeat([]int{1, clear}, impl.OutMax)
		for _, numbers := range [][]int{append(slices.Clone(bytes), clear+1), append(slices.Clone(bytes), 1, clear+1), append(slices.Clone(bytes[:2*impl.OutMax-2]), 1, clear+2, clear+1)} {
			text := lzwNumbers(way, numbers...)
			if len(text) <= impl.TextMax {
				checkLzw(t, "at OutMax", text, way, impl.OutMax)
			}
		}
	}
	// 5001 of one byte by numbers that grow: 1 and 2 and .. and 99 are 4950, then 51.
	for _, way := range lzwWays {
		first := 1<<way.bits + 2
		numbers := []int{1}
		for i := range 98 {
			numbers = append(numbers, first+i)
		}
		for _, c := range []struct{ size, code int }{{50, impl.GetDone}, {51, impl.GetLong}} {
			text := lzwNumbers(way, append(slices.Clone(numbers), first+c.size-2, first-1)...)
			out, code := impl.LzwGet(text, way.bits, way.wide, impl.OutMax)
			if code != c.code || code == 0 && out != strings.Repeat("\x01", impl.OutMax) {
				t.Errorf("%v: %d bytes %d", way, len(out), code)
			}
			if numbers := impl.LzwCodes(text, way.bits, way.wide); (len(numbers) > 0) != (c.code == 0) {
				t.Errorf("%v: %v", way, numbers)
			}
		}
	}
}

func TestLzwGetOfNoWay(t *testing.T) {
	text := impl.LzwPut("abc", 8, false) + impl.LzwPut("abc", 8, true)
	for _, way := range noLzwWays() {
		for _, text := range []string{"", text, "\x00\x00", lzwNumbers(lzwWay{2, false}, 4, 5)} {
			if out, code := impl.LzwGet(text, way.bits, way.wide, 100); out != "" || code != impl.GetBad {
				t.Errorf("%v: %q %d", way, out, code)
			}
			if numbers := impl.LzwCodes(text, way.bits, way.wide); len(numbers) != 0 {
				t.Errorf("%v: %v", way, numbers)
			}
		}
	}
}

func TestPromise24NumbersBeginByClearAndEndByEnd(t *testing.T) {
	for _, way := range lzwWays {
		clear := 1 << way.bits
		for i, text := range lzwTexts(way) {
			numbers := impl.LzwCodes(impl.LzwPut(text, way.bits, way.wide), way.bits, way.wide)
			if want := lzwPutByWords(text, way); !slices.Equal(numbers, want) {
				t.Fatalf("%v, text %d: %v, not %v", way, i, numbers, want)
			}
			if numbers[0] != clear || numbers[len(numbers)-1] != clear+1 || slices.Max(numbers) > 4095 {
				t.Fatalf("%v, text %d: %v", way, i, numbers)
			}
			if slices.Index(numbers, clear+1) != len(numbers)-1 || len(numbers) > len(text)+2+len(text)/500 {
				t.Fatalf("%v, text %d: %d numbers of %d bytes", way, i, len(numbers), len(text))
			}
		}
	}
}

func TestLzwCodesAreNewMemory(t *testing.T) {
	packed := impl.LzwPut("aaaaab", 8, true)
	want := []int{256, 97, 258, 258, 98, 257}
	numbers := impl.LzwCodes(packed, 8, true)
	if !slices.Equal(numbers, want) {
		t.Errorf("%v", numbers)
	}
	spoil(numbers, 7)
	if again := impl.LzwCodes(packed, 8, true); !slices.Equal(again, want) {
		t.Errorf("%v", again)
	}
}
