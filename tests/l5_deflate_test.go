package tests

import (
	"bytes"
	"compress/flate"
	"compress/zlib"
	"io"
	"slices"
	"strings"
	"testing"

	"loop.example/intarsia/impl"
)

func lit(b int) impl.Token {
	return impl.Token{Byte: b}
}

func back(size int, dist int) impl.Token {
	return impl.Token{Size: size, Dist: dist}
}

func TestTokensOfByHand(t *testing.T) {
	for _, c := range []struct {
		text string
		want []impl.Token
	}{
		{"", nil},
		{"a", []impl.Token{lit('a')}},
		{"aa", []impl.Token{lit('a'), lit('a')}},
		{"aaa", []impl.Token{lit('a'), lit('a'), lit('a')}},
		{"aaaa", []impl.Token{lit('a'), back(3, 1)}},
		{"abab", []impl.Token{lit('a'), lit('b'), lit('a'), lit('b')}},
		{"ababa", []impl.Token{lit('a'), lit('b'), back(3, 2)}},
		{"abcab", []impl.Token{lit('a'), lit('b'), lit('c'), lit('a'), lit('b')}},
		{"abcabc", []impl.Token{lit('a'), lit('b'), lit('c'), back(3, 3)}},
		// Of equal ones the nearest.
		{"abcxabcyabc", []impl.Token{lit('a'), lit('b'), lit('c'), lit('x'), back(3, 4), lit('y'), back(3, 4)}},
		// A longer one farther back.
		{"abcdxabcyabcd", []impl.Token{lit('a'), lit('b'), lit('c'), lit('d'), lit('x'), back(3, 5), lit('y'), back(4, 9)}},
		// One that begins within another one.
		{"abcdefgabcdefcdef", []impl.Token{lit('a'), lit('b'), lit('c'), lit('d'), lit('e'), lit('f'), lit('g'), back(6, 7), back(4, 4)}},
		// What comes is taken at once, though one place on there would be more.
		{"abcxbcdefyabcdef", []impl.Token{lit('a'), lit('b'), lit('c'), lit('x'), lit('b'), lit('c'), lit('d'), lit('e'), lit('f'), lit('y'), back(3, 10), back(3, 7)}},
		{strings.Repeat("a", 258), []impl.Token{lit('a'), back(257, 1)}},
		{strings.Repeat("a", 259), []impl.Token{lit('a'), back(258, 1)}},
		{strings.Repeat("a", 260), []impl.Token{lit('a'), back(258, 1), lit('a')}},
		{strings.Repeat("a", 261), []impl.Token{lit('a'), back(258, 1), lit('a'), lit('a')}},
		{strings.Repeat("a", 262), []impl.Token{lit('a'), back(258, 1), back(3, 1)}},
		{strings.Repeat("a", 600), []impl.Token{lit('a'), back(258, 1), back(258, 1), back(83, 1)}},
	} {
		if got := impl.TokensOf(c.text); !slices.Equal(got, c.want) {
			t.Errorf("%q: %v", c.text, got)
		}
	}
}

func TestPromise20WhatComesAgain(t *testing.T) {
	for i, text := range packTexts() {
		tokens := impl.TokensOf(text)
		if want := tokensByWords(text); !slices.Equal(tokens, want) {
			t.Fatalf("text %d: %v, not %v", i, tokens, want)
		}
		made := 0
		for k, token := range tokens {
			if token.Size == 0 {
				if token.Byte != int(text[made]) || token.Dist != 0 {
					t.Fatalf("text %d, token %d: %v", i, k, token)
				}
				made++
				continue
			}
			if token.Byte != 0 || token.Size < 3 || token.Size > 258 || token.Dist < 1 || token.Dist > made {
				t.Fatalf("text %d, token %d: %v", i, k, token)
			}
			made += token.Size
		}
		if out, ok := impl.TokensOut(tokens); out != text || !ok {
			t.Fatalf("text %d: %d bytes %v", i, len(out), ok)
		}
	}
	r := dice(201)
	far := someText(r, impl.OutMax-3)
	tokens := impl.TokensOf(far + far[:3])
	if last := tokens[len(tokens)-1]; last != back(3, impl.OutMax-3) {
		t.Errorf("the greatest distance: %v", last)
	}
	for _, size := range []int{impl.OutMax + 1, impl.TextMax, 100000} {
		if tokens := impl.TokensOf(strings.Repeat("a", size)); len(tokens) != 0 {
			t.Errorf("%d bytes: %d tokens", size, len(tokens))
		}
	}
}

func TestPromise21TokensBehindTokensMakeMore(t *testing.T) {
	r := dice(211)
	for i := range 80 {
		text := patchwork(r, r.Intn(500))
		tokens := impl.TokensOf(text)
		if i%2 == 1 {
			tokens, text = someTokens(i)
		}
		whole, ok := impl.TokensOut(tokens)
		if !ok || whole != text {
			t.Fatalf("%v: %d bytes %v", tokens, len(whole), ok)
		}
		made := 0
		for k := range tokens {
			out, ok := impl.TokensOut(tokens[:k])
			if !ok || len(out) != made || !strings.HasPrefix(text, out) {
				t.Fatalf("%v: %q %v is no beginning", tokens[:k], out, ok)
			}
			made += max(1, tokens[k].Size)
		}
	}
}

// someTokens is tokens as TokensOf would not always tell them, and what they make.
func someTokens(seed int) ([]impl.Token, string) {
	r := dice(int64(seed))
	var tokens []impl.Token
	var made []byte
	for range 1 + r.Intn(30) {
		if len(made) == 0 || r.Intn(2) == 0 {
			b := r.Intn(256)
			tokens = append(tokens, lit(b))
			made = append(made, byte(b))
			continue
		}
		token := back(3+r.Intn(40), 1+r.Intn(len(made)))
		tokens = append(tokens, token)
		for range token.Size {
			made = append(made, made[len(made)-token.Dist])
		}
	}
	return tokens, string(made)
}

func TestTokensOutByHand(t *testing.T) {
	a := lit('a')
	full := slices.Repeat([]impl.Token{a}, impl.OutMax)
	for _, c := range []struct {
		what string
		list []impl.Token
		out  string
		ok   bool
	}{
		{"none", nil, "", true},
		{"bytes 0 and 255", []impl.Token{lit(0), lit(255)}, "\x00\xff", true},
		{"into itself", []impl.Token{a, lit('b'), back(5, 2)}, "abababa", true},
		{"from the first on", []impl.Token{a, lit('b'), lit('c'), back(3, 3)}, "abcabc", true},
		{"size 258", []impl.Token{a, back(258, 1)}, strings.Repeat("a", 259), true},
		{"OutMax", full, strings.Repeat("a", impl.OutMax), true},
		{"OutMax by a size", append(slices.Clone(full[:impl.OutMax-3]), back(3, 1)), strings.Repeat("a", impl.OutMax), true},
		{"a byte more", append(slices.Clone(full), a), "", false},
		{"a byte more by a size", append(slices.Clone(full[:impl.OutMax-2]), back(3, 1)), "", false},
		{"far back", append(slices.Clone(full[:impl.OutMax-3]), back(3, impl.OutMax-3)), strings.Repeat("a", impl.OutMax), true},
		{"too far back", append(slices.Clone(full[:impl.OutMax-3]), back(3, impl.OutMax-2)), "", false},
		{"size 259", []impl.Token{a, back(259, 1)}, "", false},
		{"size 2", []impl.Token{a, a, back(2, 1)}, "", false},
		{"size 1", []impl.Token{a, back(1, 1)}, "", false},
		{"size below 0", []impl.Token{a, back(-1, 1)}, "", false},
		{"size below 0, and no distance", []impl.Token{{Byte: 97, Size: -3}}, "", false},
		{"no distance", []impl.Token{a, back(3, 0)}, "", false},
		{"distance below 0", []impl.Token{a, back(3, -1)}, "", false},
		{"farther than there are", []impl.Token{a, back(3, 2)}, "", false},
		{"a byte, and a size", []impl.Token{a, {Byte: 97, Size: 3, Dist: 1}}, "", false},
		{"a byte, and a distance", []impl.Token{a, {Byte: 97, Dist: 1}}, "", false},
		{"a distance alone", []impl.Token{a, {Dist: 1}}, "", false},
		{"byte 256", []impl.Token{lit(256)}, "", false},
		{"byte -1", []impl.Token{lit(-1)}, "", false},
		{"the last one is wrong", []impl.Token{a, a, a, lit(300)}, "", false},
		{"the first one is wrong", []impl.Token{back(3, 1), a, a}, "", false},
	} {
		list, check := guarded(c.list, back(9, 9))
		if out, ok := impl.TokensOut(list); out != c.out || ok != c.ok {
			t.Errorf("%s: %d bytes %v", c.what, len(out), ok)
		}
		check(t, c.what)
	}
	for _, n := range extremes {
		for _, token := range []impl.Token{lit(n), back(n, 1), back(3, n), {Byte: n, Size: 3, Dist: 1}, {Byte: 97, Dist: n}, {Byte: n, Size: n, Dist: n}} {
			if out, ok := impl.TokensOut([]impl.Token{a, token}); out != "" || ok {
				t.Errorf("%v: %q %v", token, out, ok)
			}
		}
	}
}

func TestTokensAreNewMemory(t *testing.T) {
	text := "abcabcabcd, abcd"
	want := tokensByWords(text)
	tokens := impl.TokensOf(text)
	spoil(tokens, lit(7))
	if again := impl.TokensOf(text); !slices.Equal(again, want) {
		t.Errorf("%v", again)
	}
	if out, _, _ := impl.Inflate(impl.Deflate(text, impl.PackOwn), impl.OutMax); out != text {
		t.Errorf("%q", out)
	}
}

func TestPromise13WhatWasPackedComesOut(t *testing.T) {
	for i, text := range packTexts() {
		for kind := range 3 {
			packed := impl.Deflate(text, kind)
			if want := textOf(blockByWords("1", 0, text, kind)); packed != want {
				t.Fatalf("text %d, kind %d: %x, not %x", i, kind, packed, want)
			}
			out, used, code := impl.Inflate(packed, impl.OutMax)
			if out != text || used != len(packed) || code != impl.GetDone {
				t.Fatalf("text %d, kind %d: %d bytes %d %d", i, kind, len(out), used, code)
			}
			if kinds := impl.InflateKinds(packed); !slices.Equal(kinds, []int{kind}) {
				t.Fatalf("text %d, kind %d: kinds %v", i, kind, kinds)
			}
			if kind == impl.PackNone && (len(packed) != len(text)+5 || packed[5:] != text) {
				t.Fatalf("text %d: %d bytes for %d", i, len(packed), len(text))
			}
			library, err := io.ReadAll(flate.NewReader(strings.NewReader(packed)))
			if err != nil || string(library) != text {
				t.Fatalf("text %d, kind %d: the library says %v", i, kind, err)
			}
		}
	}
}

func TestDeflateByHand(t *testing.T) {
	for _, c := range []struct {
		text string
		kind int
		want string
	}{
		{"", impl.PackNone, "\x01\x00\x00\xff\xff"},
		{"a", impl.PackNone, "\x01\x01\x00\xfe\xffa"},
		{"", impl.PackFixed, "\x03\x00"},
		{"a", impl.PackFixed, "\x4b\x04\x00"},
		{"aaaa", impl.PackFixed, textOf("110" + coded(fixedSyms, 'a', 257) + coded(fixedDists, 0) + coded(fixedSyms, 256))},
		{strings.Repeat("a", 258), impl.PackFixed, textOf("110" + coded(fixedSyms, 'a', 284) + low(30, 5) + coded(fixedDists, 0) + coded(fixedSyms, 256))},
		{strings.Repeat("a", 259), impl.PackFixed, textOf("110" + coded(fixedSyms, 'a', 285) + coded(fixedDists, 0) + coded(fixedSyms, 256))},
		// 256 noughts by 18 of 138 and of 118; one bit for 256; one nought, as there is no distance. 18 comes twice.
		{"", impl.PackOwn, textOf("101" + low(0, 5) + low(0, 5) + low(14, 4) + ownOfNothing)},
	} {
		if got := impl.Deflate(c.text, c.kind); got != c.want {
			t.Errorf("%q, %d: %x, not %x", c.text, c.kind, got, c.want)
		}
	}
}

// ownOfNothing: lengths of 16, 17, 18, 0, 8, .. 14, 1, then the lengths of both codes, then 256. (0 has 2 bits, 1 has 2, 18 has 1.)
var ownOfNothing = "000" + "000" + low(1, 3) + low(2, 3) + same01("0", 3*13) + low(2, 3) + "0" + low(127, 7) + "0" + low(107, 7) + "11" + "10" + "0"

func TestDeflateOfWrongArguments(t *testing.T) {
	most := strings.Repeat("ab", impl.OutMax/2)
	for _, kind := range append(slices.Clone(extremes), 3, 4) {
		for _, text := range []string{"", "a", most, most + "a"} {
			if got := impl.Deflate(text, kind); got != "" {
				t.Errorf("%d bytes, kind %d: %x", len(text), kind, got)
			}
			if got := impl.ZlibPut(text, kind); got != "" {
				t.Errorf("%d bytes, kind %d by zlib: %x", len(text), kind, got)
			}
		}
	}
	for kind := range 3 {
		if impl.Deflate(most, kind) == "" || impl.ZlibPut(most, kind) == "" {
			t.Errorf("kind %d: OutMax bytes are refused", kind)
		}
		for _, more := range []string{most + "a", strings.Repeat("a", impl.TextMax), strings.Repeat("a", 100000)} {
			if impl.Deflate(more, kind) != "" || impl.ZlibPut(more, kind) != "" {
				t.Errorf("kind %d: %d bytes are taken", kind, len(more))
			}
		}
	}
}

func TestZlibPutIsHeadPackedAndSum(t *testing.T) {
	for i, text := range packTexts() {
		for kind := range 3 {
			got := impl.ZlibPut(text, kind)
			if got != zlibOf(impl.Deflate(text, kind), impl.Adler32(text)) {
				t.Fatalf("text %d, kind %d: %x", i, kind, got)
			}
			r, err := zlib.NewReader(bytes.NewReader([]byte(got)))
			if err != nil {
				t.Fatal(err)
			}
			if out, err := io.ReadAll(r); err != nil || string(out) != text {
				t.Fatalf("text %d, kind %d: the library says %v", i, kind, err)
			}
		}
	}
	if got := impl.ZlibPut("a", impl.PackFixed); got != "\x78\x01\x4b\x04\x00\x00\x62\x00\x62" {
		t.Errorf("%x", got)
	}
}
