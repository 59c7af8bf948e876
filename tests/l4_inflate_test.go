package tests

import (
	"bytes"
	"compress/flate"
	"compress/zlib"
	"io"
	"math/rand"
	"slices"
	"strings"
	"testing"

	"loop.example/intarsia/impl"
)

// checkInflate holds what Inflate tells against the words of the document.
func checkInflate(t *testing.T, text string, limit int) {
	t.Helper()
	wantOut, wantUsed, wantKinds, wantCode := inflateByWords(text, limit)
	out, used, code := impl.Inflate(text, limit)
	if out != wantOut || used != wantUsed || code != wantCode {
		t.Fatalf("%x, %d: %q %d %d, not %q %d %d", text, limit, out, used, code, wantOut, wantUsed, wantCode)
	}
	if limit != impl.OutMax {
		return
	}
	if kinds := impl.InflateKinds(text); !slices.Equal(kinds, wantKinds) {
		t.Fatalf("%x: kinds %v, not %v", text, kinds, wantKinds)
	}
}

// checkCuts says that a text is too short, however little is missing, up to what is met, and that nothing behind that matters.
func checkCuts(t *testing.T, what string, text string, limit int, want int) {
	t.Helper()
	met := len(text)
	for k := len(text); k >= 0; k-- {
		out, used, code := impl.Inflate(text[:k], limit)
		if code != impl.GetDone && (out != "" || used != 0) {
			t.Fatalf("%s: %q and %d beside the code %d", what, out, used, code)
		}
		if code == want {
			if met != k && met != k+1 {
				t.Fatalf("%s: %d again at %d", what, code, k)
			}
			met = k
		} else if code != impl.GetShort {
			t.Fatalf("%s: %d at %d", what, code, k)
		}
	}
	if _, _, code := impl.Inflate(text, limit); code != want {
		t.Errorf("%s: %d, not %d", what, code, want)
	}
}

// withSyms is a code of symbols with these lengths, all others 0.
func withSyms(count int, lengths map[int]int) []int {
	list := make([]int, count)
	for symbol, length := range lengths {
		list[symbol] = length
	}
	return list
}

func TestInflateFixedByHand(t *testing.T) {
	fixed := func(bits ...string) string { return "110" + strings.Join(bits, "") }
	sym := func(symbols ...int) string { return coded(fixedSyms, symbols...) }
	dist := func(d int) string { return coded(fixedDists, d) }
	for _, c := range []struct {
		what string
		bits string
		out  string
		code int
	}{
		{"no bytes", fixed(sym(256)), "", 0},
		{"all ends of lengths", fixed(sym(0, 143, 144, 255, 256)), "\x00\x8f\x90\xff", 0},
		{"size 3", fixed(sym('a', 257), dist(0), sym(256)), "aaaa", 0},
		{"size 10", fixed(sym('a', 264), dist(0), sym(256)), strings.Repeat("a", 11), 0},
		{"size 11", fixed(sym('a', 265), "0", dist(0), sym(256)), strings.Repeat("a", 12), 0},
		{"size 12", fixed(sym('a', 265), "1", dist(0), sym(256)), strings.Repeat("a", 13), 0},
		{"size 257", fixed(sym('a', 284), "01111", dist(0), sym(256)), strings.Repeat("a", 258), 0},
		{"size 258 by further bits", fixed(sym('a', 284), "11111", dist(0), sym(256)), strings.Repeat("a", 259), 0},
		{"size 258", fixed(sym('a', 285), dist(0), sym(256)), strings.Repeat("a", 259), 0},
		{"into itself", fixed(sym('a', 'b', 'c', 262), dist(2), sym('!', 256)), "abcabcabcab!", 0},
		{"the greatest distance", fixed(sym('a', 'b', 'c', 'd', 257), dist(3), sym(256)), "abcdabc", 0},
		{"distance 5", fixed(sym('a', 'b', 'c', 'd', 'e', 257), dist(4), "0", sym(256)), "abcdeabc", 0},
		{"distance 6", fixed(sym('a', 'b', 'c', 'd', 'e', 'f', 257), dist(4), "1", sym(256)), "abcdefabc", 0},
		{"too far by one", fixed(sym('a', 'b', 'c', 257), dist(3), sym(256)), "", impl.GetBad},
		{"too far by a further bit", fixed(sym('a', 'b', 'c', 'd', 'e', 257), dist(4), "1", sym(256)), "", impl.GetBad},
		{"nothing so far", fixed(sym(257), dist(0), sym(256)), "", impl.GetBad},
		{"as far as can be told", fixed(sym('a', 257), dist(29), strings.Repeat("1", 13), sym(256)), "", impl.GetBad},
		{"distance symbol 30", fixed(sym('a', 257), dist(30)), "", impl.GetBad},
		{"distance symbol 31", fixed(sym('a', 257), dist(31)), "", impl.GetBad},
		{"symbol 286", fixed(sym('a', 286)), "", impl.GetBad},
		{"symbol 287", fixed(sym(287)), "", impl.GetBad},
		{"kind 3", "111", "", impl.GetBad},
		{"kind 3, not the last", "011", "", impl.GetBad},
		{"kind 3 behind another", "010" + sym('a', 256) + "111", "", impl.GetBad},
		{"no last block", "010" + sym('a', 256), "", impl.GetShort},
		{"no end", fixed(sym('a', 'b')), "", impl.GetShort},
		{"two blocks", "010" + sym('a', 256) + fixed(sym('b', 256)), "ab", 0},
		{"from a block ahead", "010" + sym('a', 'b', 'c', 256) + fixed(sym(257), dist(2), sym(256)), "abcabc", 0},
	} {
		text := textOf(c.bits)
		out, used, code := impl.Inflate(text, impl.OutMax)
		if out != c.out || code != c.code || code == 0 && used != len(text) {
			t.Errorf("%s: %q %d %d", c.what, out, used, code)
		}
		checkInflate(t, text, impl.OutMax)
		checkCuts(t, c.what, text, impl.OutMax, c.code)
	}
}

func TestInflatePlainByHand(t *testing.T) {
	most := strings.Repeat("a", impl.OutMax)
	for _, c := range []struct {
		what  string
		text  string
		limit int
		out   string
		code  int
	}{
		{"nothing", "\x01\x00\x00\xff\xff", 0, "", 0},
		{"bits that are left out", "\xf9\x01\x00\xfe\xffa", 1, "a", 0},
		{"N and M are not 65535", "\x01\x01\x00\xff\xffa", 5, "", impl.GetBad},
		{"N and M are the same", "\x01\x01\x00\x01\x00a", 5, "", impl.GetBad},
		{"N and M are 65535 and 65536", "\x01\x00\x00\x00\x00", 5, "", impl.GetBad},
		{"M the other way round", "\x01\x01\x00\xff\xfea", 5, "", impl.GetBad},
		{"a byte is missing", "\x01\x03\x00\xfc\xffab", 5, "", impl.GetShort},
		{"a byte too many", "\x01\x03\x00\xfc\xffabc", 2, "", impl.GetLong},
		{"missing ahead of too many", "\x01\x03\x00\xfc\xffab", 2, "", impl.GetShort},
		{"too many ahead of missing", "\x01\x03\x00\xfc\xffab", 1, "", impl.GetLong},
		{"N of two bytes", "\x01\x88\x13\x77\xec" + most, impl.OutMax, most, 0},
		{"one more than OutMax", "\x01\x89\x13\x76\xec" + most + "a", impl.OutMax, "", impl.GetLong},
		{"N of all", "\x01\xff\xff\x00\x00" + most, impl.OutMax, "", impl.GetShort},
		{"two blocks", "\x00\x01\x00\xfe\xffa\x01\x02\x00\xfd\xffbc", 3, "abc", 0},
		{"one bit of three", "", 3, "", impl.GetShort},
	} {
		out, used, code := impl.Inflate(c.text, c.limit)
		if out != c.out || code != c.code || code == 0 && used != len(c.text) {
			t.Errorf("%s: %d bytes %d %d", c.what, len(out), used, code)
		}
		checkInflate(t, c.text, c.limit)
	}
}

func TestInflateOwnByHand(t *testing.T) {
	// A byte, the end, sizes 3 and 258.
	syms := withSyms(286, map[int]int{'a': 2, 256: 2, 257: 2, 285: 2})
	two := []int{1, 1}
	for _, c := range []struct {
		what string
		bits string
		out  string
		code int
	}{
		{"two distances", ownFigures("1", syms, two) + coded(syms, 'a', 'a', 257) + coded(two, 1) + coded(syms, 256), "aaaaa", 0},
		{"size 258", ownFigures("1", syms, two) + coded(syms, 'a', 285) + coded(two, 0) + coded(syms, 256), strings.Repeat("a", 259), 0},
		{"no distances, none used", ownFigures("1", syms, []int{0}) + coded(syms, 'a', 256), "a", 0},
		{"30 lengths of no distance", ownFigures("1", syms, same(0, 30)) + coded(syms, 'a', 256), "a", 0},
		{"no distances, one used", ownFigures("1", syms, []int{0}) + coded(syms, 'a', 257) + same01("0", 15), "", impl.GetBad},
		{"one distance of one bit", ownFigures("1", syms, []int{1}) + coded(syms, 'a', 257) + "0" + coded(syms, 256), "aaaa", 0},
		{"one distance, not the first", ownFigures("1", syms, []int{0, 0, 1}) + coded(syms, 'a', 'a', 'a', 257) + "0" + coded(syms, 256), "aaaaaa", 0},
		{"one distance, the other bit", ownFigures("1", syms, []int{1}) + coded(syms, 'a', 257) + same01("1", 15), "", impl.GetBad},
		{"one distance of two bits", ownFigures("1", syms, []int{2}), "", impl.GetBad},
		{"distances that leave something over", ownFigures("1", syms, []int{2, 2, 2}), "", impl.GetBad},
		{"distances that are too many", ownFigures("1", syms, []int{1, 1, 15}), "", impl.GetBad},
		{"one symbol", ownFigures("1", withSyms(257, map[int]int{256: 1}), []int{0}) + "0", "", 0},
		{"one symbol, the other bit", ownFigures("1", withSyms(257, map[int]int{256: 1}), []int{0}) + same01("1", 15), "", impl.GetBad},
		{"one symbol of two bits", ownFigures("1", withSyms(257, map[int]int{256: 2}), []int{0}), "", impl.GetBad},
		{"symbols that leave something over", ownFigures("1", withSyms(257, map[int]int{'a': 2, 256: 1}), []int{0}), "", impl.GetBad},
		{"symbols that are too many", ownFigures("1", withSyms(257, map[int]int{'a': 1, 'b': 1, 256: 1}), []int{0}), "", impl.GetBad},
		{"no symbols", ownFigures("1", make([]int, 257), []int{0}), "", impl.GetBad},
		{"no symbol 256", ownFigures("1", withSyms(257, map[int]int{'a': 1, 'b': 1}), []int{0}), "", impl.GetBad},
		{"one symbol that is not 256", ownFigures("1", withSyms(257, map[int]int{'a': 1}), []int{0}), "", impl.GetBad},
		{"A of 287", ownFigures("1", append(syms, 0), two), "", impl.GetBad},
		{"A of 288", ownFigures("1", append(syms, 0, 0), two), "", impl.GetBad},
		{"B of 30", ownFigures("1", syms, append(same(0, 28), two...)) + coded(syms, 256), "", 0},
		{"B of 31", ownFigures("1", syms, append(same(0, 29), two...)), "", impl.GetBad},
		{"B of 32", ownFigures("1", syms, append(same(0, 30), two...)), "", impl.GetBad},
		{"symbols of 15 bits", ownFigures("1", steepSyms(), two) + coded(steepSyms(), 13, 14, 256), "\x0d\x0e", 0},
		{"all kinds", plainFigures("0", 0, "ab") + "010" + coded(fixedSyms, 'c', 256) + ownFigures("1", syms, two) + coded(syms, 'a', 256), "abca", 0},
	} {
		text := textOf(c.bits)
		out, used, code := impl.Inflate(text, impl.OutMax)
		if out != c.out || code != c.code || code == 0 && used != len(text) {
			t.Errorf("%s: %q %d %d", c.what, out, used, code)
		}
		checkInflate(t, text, impl.OutMax)
		checkCuts(t, c.what, text, impl.OutMax, c.code)
	}
}

// same01 repeats a figure.
func same01(figure string, times int) string {
	return strings.Repeat(figure, times)
}

// steepSyms is a code of symbols with each length up to CodeMax.
func steepSyms() []int {
	lengths := make([]int, 257)
	for i := range 14 {
		lengths[i] = i + 1
	}
	lengths[14], lengths[256] = 15, 15
	return lengths
}

func TestInflateLengthsByHand(t *testing.T) {
	// By these: 0 is 000, 1 is 001, 2 is 010, 16 is 011, 17 is 10, 18 is 11.
	code := withSyms(19, map[int]int{0: 3, 1: 3, 2: 3, 16: 3, 17: 2, 18: 2})
	sym := func(symbols ...int) string { return coded(code, symbols...) }
	head := func(a, b int) string { return "101" + headFigures(a, b, code) }
	ofLengths := func(lengths map[int]int) string { return "101" + headFigures(257, 1, withSyms(19, lengths)) }
	zeros256 := sym(18) + low(138-11, 7) + sym(18) + low(118-11, 7)
	for _, c := range []struct {
		what string
		bits string
		out  string
		code int
	}{
		{"256 alone", head(257, 1) + zeros256 + sym(1, 0) + "0", "", 0},
		{"noughts over the end of symbols", head(258, 4) + zeros256 + sym(1, 17) + low(5-3, 3) + "0", "", 0},
		{"the same over the end of symbols", head(257, 4) + sym(17) + low(10-3, 3) + sym(18) + low(138-11, 7) + sym(18) + low(105-11, 7) + sym(2, 2, 2, 2, 16) + low(1, 2) + "11", "", 0},
		{"16 is the last of a 16", head(257, 4) + sym(18) + low(138-11, 7) + sym(18) + low(115-11, 7) + sym(2, 16) + low(0, 2) + sym(16) + low(1, 2) + "11", "", 0},
		{"a 16 over the end of symbols", head(257, 4) + sym(18) + low(138-11, 7) + sym(18) + low(115-11, 7) + sym(2, 16) + low(3, 2) + sym(2) + "11", "", 0},
		{"16 behind 17", head(257, 7) + zeros256 + sym(1) + sym(17) + low(0, 3) + sym(16) + low(1, 2) + "0", "", 0},
		{"16 as the first", head(257, 1) + sym(16), "", impl.GetBad},
		{"16 as the first, with all behind", head(257, 1) + sym(16) + low(0, 2) + zeros256 + sym(1, 0) + "0", "", impl.GetBad},
		{"one length more by 17", head(257, 2) + zeros256 + sym(1, 17) + low(0, 3), "", impl.GetBad},
		{"just as many by 17", head(257, 3) + zeros256 + sym(1, 17) + low(0, 3) + "0", "", 0},
		{"one more by 18", head(257, 1) + sym(18) + low(127, 7) + sym(18) + low(121-11, 7), "", impl.GetBad},
		{"just as many by 18", head(257, 1) + sym(18) + low(127, 7) + sym(18) + low(120-11, 7), "", impl.GetBad},
		{"one more by 16", head(257, 3) + zeros256 + sym(1, 16) + low(1, 2), "", impl.GetBad},
		{"no code of lengths", ofLengths(nil), "", impl.GetBad},
		{"one length of two bits", ofLengths(map[int]int{1: 2}), "", impl.GetBad},
		{"lengths that leave something over", ofLengths(map[int]int{0: 1, 1: 2}), "", impl.GetBad},
		{"lengths that are too many", ofLengths(map[int]int{0: 1, 1: 1, 2: 1}), "", impl.GetBad},
		{"one length of one bit: all noughts", ofLengths(map[int]int{18: 1}) + "0" + low(127, 7) + "0" + low(120-11, 7), "", impl.GetBad},
		{"one length of one bit, the other bit", ofLengths(map[int]int{18: 1}) + same01("1", 15), "", impl.GetBad},
		{"C of 4", "101" + low(0, 5) + low(0, 5) + low(0, 4) + "000" + "000" + low(1, 3) + low(1, 3) + same01("0", 257) + "0", "", impl.GetBad},
		{"C of 4, noughts by 18", "101" + low(0, 5) + low(0, 5) + low(0, 4) + "000" + "000" + low(1, 3) + low(1, 3) + "1" + low(127, 7) + "1" + low(120-11, 7), "", impl.GetBad},
	} {
		text := textOf(c.bits)
		out, used, code := impl.Inflate(text, impl.OutMax)
		if out != c.out || code != c.code || code == 0 && used != len(text) {
			t.Errorf("%s: %q %d %d", c.what, out, used, code)
		}
		checkInflate(t, text, impl.OutMax)
		checkCuts(t, c.what, text, impl.OutMax, c.code)
	}
}

// A, B and the code of lengths of lengths are looked at behind all C, the other codes behind all lengths.
func TestInflateLooksAtCodesBehindThem(t *testing.T) {
	syms := withSyms(286, map[int]int{'a': 1, 256: 1})
	for what, bits := range map[string]string{
		"A":                  "101" + headFigures(288, 1, flatLengths),
		"B":                  "101" + headFigures(257, 32, flatLengths),
		"lengths of lengths": "101" + headFigures(257, 1, same(7, 19)),
		"all noughts":        "101" + headFigures(257, 1, same(0, 19)),
		"symbols":            ownFigures("1", withSyms(286, map[int]int{0: 1, 1: 1, 2: 1, 256: 1}), []int{1, 1}),
		"distances":          ownFigures("1", syms, []int{1, 1, 1}),
		"256":                ownFigures("1", withSyms(286, map[int]int{0: 1, 1: 1}), []int{1, 1}),
	} {
		text := textOf(bits)
		if _, _, code := impl.Inflate(text, impl.OutMax); code != impl.GetBad {
			t.Errorf("%s: %d", what, code)
		}
		// Up to the byte that has the last of them some bits are needed.
		for k := range (len(bits)-1)/8 + 1 {
			if _, _, code := impl.Inflate(text[:k], impl.OutMax); code != impl.GetShort {
				t.Errorf("%s: %d at %d", what, code, k)
			}
		}
	}
}

// Of fewer bits than a symbol can have none are bad: more are needed.
func TestInflateNoSymbolNeedsAllBits(t *testing.T) {
	syms := withSyms(258, map[int]int{'a': 1, 256: 2, 257: 2})
	for _, c := range []struct {
		dists []int
		first string
	}{{[]int{0}, "0"}, {[]int{0}, "1"}, {same(0, 30), "1"}, {[]int{1}, "1"}, {[]int{0, 1}, "1"}} {
		head := ownFigures("1", syms, c.dists)
		for left := range 33 {
			body := "0"
			for (len(head)+len(body)+2+left)%8 != 0 {
				body += "0"
			}
			bits := head + body + coded(syms, 257)
			if left > 0 {
				bits += c.first + same01("0", left-1)
			}
			want := impl.GetShort
			if left >= impl.CodeMax {
				want = impl.GetBad
			}
			if _, _, code := impl.Inflate(textOf(bits), impl.OutMax); code != want || len(bits)%8 != 0 {
				t.Errorf("%v, %d bits from %s on: %d", c.dists, left, c.first, code)
			}
		}
	}
}

func TestInflateWhatIsMetFirst(t *testing.T) {
	sym := func(symbols ...int) string { return coded(fixedSyms, symbols...) }
	near, far := coded(fixedDists, 0), coded(fixedDists, 9)
	for _, c := range []struct {
		what  string
		bits  string
		limit int
		code  int
	}{
		{"room ends ahead of a bad symbol", "110" + sym('a', 'b', 286), 1, impl.GetLong},
		{"a bad symbol as the room ends", "110" + sym('a', 'b', 286), 2, impl.GetBad},
		{"the end as the room ends", "110" + sym('a', 'b', 256), 2, impl.GetDone},
		{"too far, and no room", "110" + sym('a', 257) + far + "000", 1, impl.GetBad},
		{"no room for the first of a size", "110" + sym('a', 257) + near + sym(256), 1, impl.GetLong},
		{"no room for the last of a size", "110" + sym('a', 257) + near + sym(256), 3, impl.GetLong},
		{"room for a size", "110" + sym('a', 257) + near + sym(256), 4, impl.GetDone},
		{"no room for a size, and bad behind", "110" + sym('a', 257) + near + sym(286), 3, impl.GetLong},
		{"no room for a size, but bad as its distance", "110" + sym('a', 257) + coded(fixedDists, 30), 1, impl.GetBad},
		{"kind 3 as the room ends", "010" + sym('a', 256) + "111", 1, impl.GetBad},
		{"an empty block as the room ends", "010" + sym('a', 256) + "110" + sym(256), 1, impl.GetDone},
		{"no room at all, nothing put out", "110" + sym(256), 0, impl.GetDone},
		{"no room at all", "110" + sym('a', 256), 0, impl.GetLong},
		{"no room at all, and bad", "110" + sym(286), 0, impl.GetBad},
		{"no room at all, too far", "110" + sym(257) + near, 0, impl.GetBad},
		{"N and M ahead of the room", "100" + same01("0", 5) + low(1, 16) + low(1, 16) + low('a', 8), 0, impl.GetBad},
	} {
		checkCuts(t, c.what, textOf(c.bits), c.limit, c.code)
		checkInflate(t, textOf(c.bits), c.limit)
	}
}

// hurt is a text with something changed, cut off, or laid behind.
func hurt(r *rand.Rand, text string) string {
	switch r.Intn(6) {
	case 0:
		return text[:r.Intn(len(text)+1)]
	case 1:
		return text + someText(r, r.Intn(5))
	case 2:
		return text
	}
	for range 1 + r.Intn(3) {
		if len(text) > 0 {
			text = turnBit(text, r.Intn(8*len(text)))
		}
	}
	return text
}

// flateReads is what the library reads of a text.
func flateReads(text string) (string, int, bool) {
	left := strings.NewReader(text)
	out, err := io.ReadAll(io.LimitReader(flate.NewReader(left), impl.OutMax+1))
	return string(out), len(text) - left.Len(), err == nil && len(out) <= impl.OutMax
}

func TestPromise14NeverMoreThanItMay(t *testing.T) {
	r := dice(141)
	codes := [4]int{}
	for i := range 5000 {
		text := hurt(r, textOf(someBlocks(r)))
		if i%10 == 0 {
			text = someText(r, r.Intn(40))
		}
		limit := impl.OutMax
		if r.Intn(2) == 0 {
			limit = r.Intn(200)
		}
		checkInflate(t, text, limit)
		out, used, code := impl.Inflate(text, limit)
		codes[code]++
		if code != impl.GetDone {
			if out != "" || used != 0 {
				t.Fatalf("%x: %q %d %d", text, out, used, code)
			}
			continue
		}
		if len(out) > limit || used < 1 || used > len(text) {
			t.Fatalf("%x: %d bytes for %d, of %d", text, len(out), limit, used)
		}
		for _, other := range []string{text[:used], text[:used] + someText(r, 1+r.Intn(30)), text + "\x00", text + "\xff\xff"} {
			if again, need, code := impl.Inflate(other, limit); again != out || need != used || code != impl.GetDone {
				t.Fatalf("%x and %x are not the same", text, other)
			}
		}
		if _, _, code := impl.Inflate(text[:used-1], limit); code != impl.GetShort {
			t.Fatalf("%x: %d without a byte that it needs", text, code)
		}
	}
	for code, count := range codes {
		if count < 100 {
			t.Errorf("code %d came %d times", code, count)
		}
	}
}

func TestInflateReadsWhatTheLibraryReads(t *testing.T) {
	r := dice(142)
	read := 0
	for range 3000 {
		text := hurt(r, textOf(someBlocks(r)))
		want, need, ok := flateReads(text)
		out, used, code := impl.Inflate(text, impl.OutMax)
		if ok != (code == impl.GetDone) || ok && (out != want || used != need) {
			t.Fatalf("%x: %q %d %d, not %q %d %v", text, out, used, code, want, need, ok)
		}
		if ok {
			read++
		}
	}
	if read < 300 {
		t.Errorf("only %d could be read", read)
	}
	for i, text := range packTexts() {
		for level := flate.HuffmanOnly; level <= flate.BestCompression; level++ {
			var b bytes.Buffer
			w, err := flate.NewWriter(&b, level)
			if err != nil {
				t.Fatal(err)
			}
			io.WriteString(w, text[:len(text)/2])
			w.Flush()
			io.WriteString(w, text[len(text)/2:])
			w.Close()
			if out, used, code := impl.Inflate(b.String(), impl.OutMax); out != text || used != b.Len() || code != impl.GetDone {
				t.Fatalf("text %d, level %d: %d bytes, %d, %d", i, level, len(out), used, code)
			}
		}
	}
}

func TestPromise15WithMoreRoomItIsTheSame(t *testing.T) {
	r := dice(151)
	for i := range 600 {
		text := textOf(someBlocks(r))
		if i < 30 {
			text = impl.Deflate(packTexts()[i], i%3)
		}
		out, used, code := impl.Inflate(text, impl.OutMax)
		if code != impl.GetDone {
			continue
		}
		limits := []int{len(out), len(out) + 1, impl.OutMax - 1, impl.OutMax, 0, 1, len(out) - 1, len(out) / 2}
		for _, limit := range limits {
			if limit < 0 || limit > impl.OutMax {
				continue
			}
			again, need, code := impl.Inflate(text, limit)
			if limit >= len(out) && (again != out || need != used || code != impl.GetDone) {
				t.Fatalf("%x, %d: %d bytes %d %d", text, limit, len(again), need, code)
			}
			if limit < len(out) && (again != "" || need != 0 || code != impl.GetLong) {
				t.Fatalf("%x, %d: %d bytes %d %d", text, limit, len(again), need, code)
			}
		}
	}
	most := impl.Deflate(strings.Repeat("a", impl.OutMax), impl.PackOwn)
	if out, _, code := impl.Inflate(most, impl.OutMax); len(out) != impl.OutMax || code != impl.GetDone {
		t.Errorf("OutMax bytes: %d, %d", len(out), code)
	}
	// 98 and 19 times 258 bytes are OutMax.
	ahead := "110" + strings.Repeat(coded(fixedSyms, 'a'), 98) + strings.Repeat(coded(fixedSyms, 285)+coded(fixedDists, 0), 19)
	full, over := textOf(ahead+coded(fixedSyms, 256)), textOf(ahead+coded(fixedSyms, 'a', 256))
	if out, used, code := impl.Inflate(full, impl.OutMax); len(out) != impl.OutMax || used != len(full) || code != impl.GetDone {
		t.Errorf("just OutMax: %d bytes %d %d", len(out), used, code)
	}
	if out, used, code := impl.Inflate(over, impl.OutMax); out != "" || used != 0 || code != impl.GetLong {
		t.Errorf("more than OutMax: %d bytes %d %d", len(out), used, code)
	}
	if kinds := impl.InflateKinds(full); !slices.Equal(kinds, []int{1}) {
		t.Errorf("just OutMax: kinds %v", kinds)
	}
	if kinds := impl.InflateKinds(over); len(kinds) != 0 {
		t.Errorf("more than OutMax: kinds %v", kinds)
	}
}

func TestInflateOfWrongArguments(t *testing.T) {
	for _, limit := range append(slices.Clone(extremes), impl.OutMax+1) {
		for _, text := range []string{"\x03\x00", "", "\x03", "\x4b\x04\x00"} {
			if out, used, code := impl.Inflate(text, limit); out != "" || used != 0 || code != impl.GetBad {
				t.Errorf("limit %d: %q %d %d", limit, out, used, code)
			}
			if out, code := impl.ZlibGet("\x78\x01"+text, limit); out != "" || code != impl.GetBad {
				t.Errorf("zlib, limit %d: %q %d", limit, out, code)
			}
		}
		if out, code := impl.ZlibGet("", limit); out != "" || code != impl.GetBad {
			t.Errorf("zlib of nothing, limit %d: %q %d", limit, out, code)
		}
	}
	packed := impl.Deflate("abc", impl.PackFixed)
	long := packed + strings.Repeat("\x00", impl.TextMax-len(packed))
	if out, used, code := impl.Inflate(long, 3); out != "abc" || used != len(packed) || code != impl.GetDone {
		t.Errorf("TextMax bytes: %q %d %d", out, used, code)
	}
	if kinds := impl.InflateKinds(long); !slices.Equal(kinds, []int{1}) {
		t.Errorf("TextMax bytes: kinds %v", kinds)
	}
	if out, used, code := impl.Inflate(long+"\x00", 3); out != "" || used != 0 || code != impl.GetBad {
		t.Errorf("one byte more: %q %d %d", out, used, code)
	}
	if kinds := impl.InflateKinds(long + "\x00"); len(kinds) != 0 {
		t.Errorf("one byte more: kinds %v", kinds)
	}
}

// As many empty blocks as a text has room for.
func TestInflateOfManyBlocks(t *testing.T) {
	bits := strings.Repeat("010"+coded(fixedSyms, 256), 8*impl.TextMax/10-1) + "110" + coded(fixedSyms, 256)
	out, used, code := impl.Inflate(textOf(bits), 0)
	if out != "" || used != impl.TextMax || code != impl.GetDone {
		t.Errorf("%q %d %d", out, used, code)
	}
	if kinds := impl.InflateKinds(textOf(bits)); !slices.Equal(kinds, same(1, 8*impl.TextMax/10)) {
		t.Errorf("%d kinds", len(kinds))
	}
	plain := strings.Repeat("\x00\x00\x00\xff\xff", impl.TextMax/5-1) + "\x01\x00\x00\xff\xff"
	if out, used, code := impl.Inflate(plain, 0); out != "" || used != impl.TextMax || code != impl.GetDone {
		t.Errorf("%q %d %d", out, used, code)
	}
	if _, _, code := impl.Inflate(strings.Repeat("\x00\x00\x00\xff\xff", impl.TextMax/5), 0); code != impl.GetShort {
		t.Errorf("without a last one: %d", code)
	}
}

func TestPromise16CutOffIsTooShort(t *testing.T) {
	for i, text := range packTexts() {
		for kind := range 3 {
			packed := impl.Deflate(text, kind)
			step := 1 + len(packed)/150
			for k := len(packed) - 1; k >= 0; k -= step {
				if out, used, code := impl.Inflate(packed[:k], impl.OutMax); out != "" || used != 0 || code != impl.GetShort {
					t.Fatalf("text %d, kind %d, %d of %d: %d bytes %d %d", i, kind, k, len(packed), len(out), used, code)
				}
				if kinds := impl.InflateKinds(packed[:k]); len(kinds) != 0 {
					t.Fatalf("text %d, kind %d, %d of %d: kinds %v", i, kind, k, len(packed), kinds)
				}
			}
		}
	}
}

func TestPromise17BlocksOneBehindTheOther(t *testing.T) {
	r := dice(171)
	texts := []string{"", "a", "abcabcabc", strings.Repeat("a", 300), patchwork(r, 200), patchwork(r, 400)}
	for _, first := range texts {
		for _, second := range texts {
			for kind := range 3 {
				// A block that ends at a whole byte, and is not the last.
				ahead := turnBit(impl.Deflate(first, impl.PackNone), 0)
				behind := impl.Deflate(second, kind)
				out, used, code := impl.Inflate(ahead+behind, impl.OutMax)
				if out != first+second || used != len(ahead+behind) || code != impl.GetDone {
					t.Fatalf("%q and %q: %q %d %d", first, second, out, used, code)
				}
				if kinds := impl.InflateKinds(ahead + behind); !slices.Equal(kinds, []int{0, kind}) {
					t.Fatalf("kinds %v, not 0 and %d", kinds, kind)
				}
				for ahead := range 3 {
					checkTwoBlocks(t, first, ahead, second, kind)
				}
			}
		}
	}
	half := strings.Repeat("x", impl.OutMax/2)
	two := turnBit(impl.Deflate(half, impl.PackNone), 0) + impl.Deflate(half, impl.PackOwn)
	if out, _, code := impl.Inflate(two, impl.OutMax); out != half+half || code != impl.GetDone {
		t.Errorf("OutMax bytes in two: %d bytes %d", len(out), code)
	}
	two = turnBit(impl.Deflate(half, impl.PackNone), 0) + impl.Deflate(half+"x", impl.PackOwn)
	if out, _, code := impl.Inflate(two, impl.OutMax); out != "" || code != impl.GetLong {
		t.Errorf("one more in two: %d bytes %d", len(out), code)
	}
}

func checkTwoBlocks(t *testing.T, first string, ahead int, second string, kind int) {
	t.Helper()
	bits := blockByWords("0", 0, first, ahead)
	bits += blockByWords("1", len(bits), second, kind)
	text := textOf(bits)
	if out, used, code := impl.Inflate(text, impl.OutMax); out != first+second || used != len(text) || code != impl.GetDone {
		t.Fatalf("%q by %d and %q by %d: %q %d %d", first, ahead, second, kind, out, used, code)
	}
	if kinds := impl.InflateKinds(text); !slices.Equal(kinds, []int{ahead, kind}) {
		t.Fatalf("kinds %v, not %d and %d", kinds, ahead, kind)
	}
}

func TestInflateKindsAreNewMemory(t *testing.T) {
	text := textOf(plainFigures("0", 0, "") + "010" + coded(fixedSyms, 256) + "110" + coded(fixedSyms, 256))
	want := []int{0, 1, 1}
	kinds := impl.InflateKinds(text)
	if !slices.Equal(kinds, want) {
		t.Fatalf("%v", kinds)
	}
	spoil(kinds, 9)
	if again := impl.InflateKinds(text); !slices.Equal(again, want) {
		t.Errorf("%v", again)
	}
}

// zlibOf lays the head and a sum around what is packed.
func zlibOf(packed string, sum int) string {
	return "\x78\x01" + packed + impl.NumPut(sum, 4, true)
}

func TestPromise18OfWhatWasChangedNothingComesOut(t *testing.T) {
	for i, text := range packTexts() {
		for kind := range 3 {
			whole := impl.ZlibPut(text, kind)
			if out, code := impl.ZlibGet(whole, impl.OutMax); out != text || code != impl.GetDone {
				t.Fatalf("text %d, kind %d: %d bytes %d", i, kind, len(out), code)
			}
			if out, code := impl.ZlibGet(whole, len(text)); out != text || code != impl.GetDone {
				t.Fatalf("text %d, kind %d, just room: %d bytes %d", i, kind, len(out), code)
			}
			if out, code := impl.ZlibGet(whole, len(text)-1); len(text) > 0 && (out != "" || code != impl.GetLong) {
				t.Fatalf("text %d, kind %d, too little room: %d bytes %d", i, kind, len(out), code)
			}
			for _, more := range []string{"\x00", "\xff", "ab"} {
				if out, code := impl.ZlibGet(whole+more, impl.OutMax); out != "" || code != impl.GetBad {
					t.Fatalf("text %d, kind %d, a byte more: %d bytes %d", i, kind, len(out), code)
				}
			}
			step := 1 + len(whole)/60
			for k := len(whole) - 1; k >= 0; k -= step {
				if out, code := impl.ZlibGet(whole[:k], impl.OutMax); out != "" || code != impl.GetShort {
					t.Fatalf("text %d, kind %d, %d of %d: %d bytes %d", i, kind, k, len(whole), len(out), code)
				}
			}
			for bit := 0; bit < 8*len(whole); bit += 1 + len(whole)/12 {
				out, code := impl.ZlibGet(turnBit(whole, bit), impl.OutMax)
				// A bit up to a whole byte says nothing, and seldom another text has the same sum.
				if code == impl.GetDone && impl.Adler32(out) != impl.Adler32(text) || code != impl.GetDone && out != "" {
					t.Fatalf("text %d, kind %d, bit %d: %d bytes %d", i, kind, bit, len(out), code)
				}
				if code == impl.GetDone && (bit < 16 || bit >= 8*len(whole)-32) {
					t.Fatalf("text %d, kind %d, bit %d of head or sum: %d", i, kind, bit, code)
				}
			}
		}
	}
}

func TestPromise19WhatIsReadHasItsSum(t *testing.T) {
	r := dice(191)
	done := 0
	for range 2000 {
		packed := hurt(r, textOf(someBlocks(r)))
		out, used, code := impl.Inflate(packed, impl.OutMax)
		sum := impl.Adler32(out)
		if r.Intn(4) == 0 {
			sum ^= 1 << r.Intn(32)
		}
		if code == impl.GetDone {
			packed = packed[:used]
		}
		text := zlibOf(packed, sum)
		made, zcode := impl.ZlibGet(text, impl.OutMax)
		if zcode != impl.GetDone {
			if made != "" || code == impl.GetDone && sum == impl.Adler32(out) {
				t.Fatalf("%x: %q %d", text, made, zcode)
			}
			continue
		}
		done++
		tail, _ := impl.NumGet(text, len(text)-4, 4, true)
		between, need, _ := impl.Inflate(text[2:len(text)-4], impl.OutMax)
		if impl.Adler32(made) != tail || between != made || need != len(text)-6 {
			t.Fatalf("%x: %q, but %q", text, made, between)
		}
	}
	if done < 200 {
		t.Errorf("only %d could be read", done)
	}
}

func TestZlibGetByHand(t *testing.T) {
	a := impl.Deflate("a", impl.PackFixed)
	sum := impl.Adler32("a")
	for _, c := range []struct {
		what  string
		text  string
		limit int
		out   string
		code  int
	}{
		{"a", zlibOf(a, sum), 1, "a", 0},
		{"nothing", "\x78\x01\x03\x00\x00\x00\x00\x01", 0, "", 0},
		{"no bytes", "", 5, "", impl.GetShort},
		{"one byte", "\x78", 5, "", impl.GetShort},
		{"one byte that can not be", "\x00", 5, "", impl.GetShort},
		{"a head alone", "\x78\x01", 5, "", impl.GetShort},
		{"a wrong head alone", "\x78\x02", 5, "", impl.GetBad},
		{"a dictionary", "\x78\x20" + zlibOf(a, sum)[2:], 5, "", impl.GetBad},
		{"another way", "\x79\x19" + zlibOf(a, sum)[2:], 5, "", impl.GetBad},
		{"a window that is too wide", "\x88\x1c" + zlibOf(a, sum)[2:], 5, "", impl.GetBad},
		{"a lesser window", "\x08\x1d" + zlibOf(a, sum)[2:], 5, "a", 0},
		{"packed well", "\x78\xda" + zlibOf(a, sum)[2:], 5, "a", 0},
		{"kind 3", "\x78\x01\x07", 5, "", impl.GetBad},
		{"no room", zlibOf(a, sum), 0, "", impl.GetLong},
		{"no room, and no sum", "\x78\x01" + a, 0, "", impl.GetLong},
		{"no sum", "\x78\x01" + a, 5, "", impl.GetShort},
		{"three bytes of a sum", zlibOf(a, sum)[:2+len(a)+3], 5, "", impl.GetShort},
		{"three bytes of another sum", "\x78\x01" + a + "\xff\xff\xff", 5, "", impl.GetShort},
		{"another sum", zlibOf(a, sum+1), 5, "", impl.GetBad},
		{"the sum the other way round", "\x78\x01" + a + impl.NumPut(sum, 4, false), 5, "", impl.GetBad},
		{"something behind", zlibOf(a, sum) + "\x00", 5, "", impl.GetBad},
		{"something ahead of the sum", zlibOf(a+"\x00", sum), 5, "", impl.GetBad},
		{"as long as may be", zlibOf(strings.Repeat("\x00\x00\x00\xff\xff", 1797)+"\x01\x04\x00\xfb\xffabcd", impl.Adler32("abcd")), 4, "abcd", 0},
		{"one byte longer", zlibOf(strings.Repeat("\x00\x00\x00\xff\xff", 1797)+"\x01\x05\x00\xfa\xffabcde", impl.Adler32("abcde")), 5, "", impl.GetBad},
	} {
		if out, code := impl.ZlibGet(c.text, c.limit); out != c.out || code != c.code {
			t.Errorf("%s: %q %d", c.what, out, code)
		}
	}
	body := zlibOf(a, sum)[2:]
	for head := range 65536 {
		first, second := head/256, head%256
		ok := first%16 == 8 && first/16 <= 7 && head%31 == 0 && second/32%2 == 0
		out, code := impl.ZlibGet(string([]byte{byte(first), byte(second)})+body, 1)
		if ok && (out != "a" || code != impl.GetDone) || !ok && (out != "" || code != impl.GetBad) {
			t.Fatalf("head %d, %d: %q %d", first, second, out, code)
		}
	}
}

func TestZlibGetReadsWhatTheLibraryWrites(t *testing.T) {
	for i, text := range packTexts() {
		for level := zlib.HuffmanOnly; level <= zlib.BestCompression; level++ {
			var b bytes.Buffer
			w, err := zlib.NewWriterLevel(&b, level)
			if err != nil {
				t.Fatal(err)
			}
			io.WriteString(w, text)
			w.Close()
			if out, code := impl.ZlibGet(b.String(), impl.OutMax); out != text || code != impl.GetDone {
				t.Fatalf("text %d, level %d: %d bytes %d", i, level, len(out), code)
			}
		}
	}
}
