package tests

import (
	"math/rand"
	"slices"
	"strings"

	"loop.example/intarsia/impl"
)

// The sizes and distances of RFC 1951, written out: the program makes them by a rule.
var (
	sizeLeasts  = []int{3, 4, 5, 6, 7, 8, 9, 10, 11, 13, 15, 17, 19, 23, 27, 31, 35, 43, 51, 59, 67, 83, 99, 115, 131, 163, 195, 227, 258}
	sizeFurther = []int{0, 0, 0, 0, 0, 0, 0, 0, 1, 1, 1, 1, 2, 2, 2, 2, 3, 3, 3, 3, 4, 4, 4, 4, 5, 5, 5, 5, 0}
	distLeasts  = []int{1, 2, 3, 4, 5, 7, 9, 13, 17, 25, 33, 49, 65, 97, 129, 193, 257, 385, 513, 769, 1025, 1537, 2049, 3073, 4097, 6145, 8193, 12289, 16385, 24577}
	distFurther = []int{0, 0, 0, 0, 1, 1, 2, 2, 3, 3, 4, 4, 5, 5, 6, 6, 7, 7, 8, 8, 9, 9, 10, 10, 11, 11, 12, 12, 13, 13}
	orderOfC    = []int{16, 17, 18, 0, 8, 7, 9, 6, 10, 5, 11, 4, 12, 3, 13, 2, 14, 1, 15}
	fixedSyms   = slices.Concat(same(8, 144), same(9, 112), same(7, 24), same(8, 8))
	fixedDists  = same(5, 32)
)

// textOf packs figures, the lowest bit of each byte first, with noughts behind up to whole bytes.
func textOf(bits string) string {
	text := make([]byte, (len(bits)+7)/8)
	for i := range len(bits) {
		text[i/8] |= (bits[i] - '0') << (i % 8)
	}
	return string(text)
}

// low writes a number of so many bits as figures, as further bits and lengths stand.
func low(n int, size int) string {
	return figures(n, size, false)
}

// coded writes symbols by a code as figures, the highest of each number first.
func coded(lengths []int, symbols ...int) string {
	numbers := impl.CodeMake(lengths)
	bits := ""
	for _, symbol := range symbols {
		if lengths[symbol] == 0 {
			panic("the code has no such symbol")
		}
		bits += figures(numbers[symbol], lengths[symbol], true)
	}
	return bits
}

// plainFigures is a block of bytes as they are, behind so many bits.
func plainFigures(last string, behind int, text string) string {
	bits := last + "00"
	for (behind+len(bits))%8 != 0 {
		bits += "0"
	}
	return bits + low(len(text), 16) + low(65535-len(text), 16) + bitsOf(text, false)
}

// flatLengths is a code of lengths of lengths that has each of 0..15 by four bits.
var flatLengths = slices.Concat(same(4, 16), same(0, 3))

// headFigures is A, B, C and lengths of lengths, all 19.
func headFigures(a int, b int, ofLengths []int) string {
	bits := low(a-257, 5) + low(b-1, 5) + low(15, 4)
	for _, symbol := range orderOfC {
		bits += low(ofLengths[symbol], 3)
	}
	return bits
}

// ownFigures is a block with codes of its own up to its symbols, each length by itself.
func ownFigures(last string, symbols []int, dists []int) string {
	lengths := slices.Concat(symbols, dists)
	return last + "01" + headFigures(len(symbols), len(dists), flatLengths) + coded(flatLengths, lengths...)
}

// wordsFault is the code that the reader by words meets.
type wordsFault int

// wordsReader reads blocks out of figures, as the document words it.
type wordsReader struct {
	bits  string
	at    int
	out   []byte
	limit int
	kinds []int
}

func (w *wordsReader) number(size int) int {
	n := 0
	for i := range size {
		if w.at == len(w.bits) {
			panic(wordsFault(impl.GetShort))
		}
		n += int(w.bits[w.at]-'0') << i
		w.at++
	}
	return n
}

func (w *wordsReader) put(b byte) {
	if len(w.out) == w.limit {
		panic(wordsFault(impl.GetLong))
	}
	w.out = append(w.out, b)
}

// book is the figures of each symbol of a code.
func book(lengths []int) map[string]int {
	symbols := map[string]int{}
	for symbol, number := range impl.CodeMake(lengths) {
		if lengths[symbol] > 0 {
			symbols[figures(number, lengths[symbol], true)] = symbol
		}
	}
	return symbols
}

func (w *wordsReader) symbol(symbols map[string]int) int {
	seen := ""
	for range impl.CodeMax {
		seen += string(rune('0' + w.number(1)))
		if symbol, ok := symbols[seen]; ok {
			return symbol
		}
	}
	panic(wordsFault(impl.GetBad))
}

func must(ok bool) {
	if !ok {
		panic(wordsFault(impl.GetBad))
	}
}

func codeFine(lengths []int, none bool) bool {
	come := comeOf(lengths)
	return impl.CodeFull(lengths) || come == 1 && slices.Max(lengths) == 1 || none && come == 0
}

func (w *wordsReader) body(symbols map[string]int, dists map[string]int) {
	for {
		symbol := w.symbol(symbols)
		if symbol == 256 {
			return
		}
		if symbol < 256 {
			w.put(byte(symbol))
			continue
		}
		must(symbol < 286)
		size := sizeLeasts[symbol-257] + w.number(sizeFurther[symbol-257])
		d := w.symbol(dists)
		must(d < 30)
		dist := distLeasts[d] + w.number(distFurther[d])
		must(dist <= len(w.out))
		for range size {
			w.put(w.out[len(w.out)-dist])
		}
	}
}

func (w *wordsReader) own() {
	a, b, c := w.number(5)+257, w.number(5)+1, w.number(4)+4
	ofLengths := make([]int, 19)
	for _, symbol := range orderOfC[:c] {
		ofLengths[symbol] = w.number(3)
	}
	must(a <= 286 && b <= 30 && codeFine(ofLengths, false))
	code := book(ofLengths)
	var lengths []int
	for len(lengths) < a+b {
		symbol := w.symbol(code)
		switch symbol {
		case 16:
			must(len(lengths) > 0)
			lengths = append(lengths, same(lengths[len(lengths)-1], 3+w.number(2))...)
		case 17:
			lengths = append(lengths, same(0, 3+w.number(3))...)
		case 18:
			lengths = append(lengths, same(0, 11+w.number(7))...)
		default:
			lengths = append(lengths, symbol)
		}
	}
	must(len(lengths) == a+b && codeFine(lengths[:a], true) && codeFine(lengths[a:], true) && lengths[256] != 0)
	w.body(book(lengths[:a]), book(lengths[a:]))
}

func (w *wordsReader) blocks() {
	for last := 0; last == 0; {
		last = w.number(1)
		kind := w.number(2)
		w.kinds = append(w.kinds, kind)
		switch kind {
		case 0:
			w.at = (w.at + 7) / 8 * 8
			n := w.number(16)
			must(n+w.number(16) == 65535)
			for range n {
				w.put(byte(w.number(8)))
			}
		case 1:
			w.body(book(fixedSyms), book(fixedDists))
		case 2:
			w.own()
		case 3:
			must(false)
		}
	}
}

// inflateByWords is what Inflate and InflateKinds must tell.
func inflateByWords(text string, limit int) (out string, used int, kinds []int, code int) {
	if len(text) > impl.TextMax || limit < 0 || limit > impl.OutMax {
		return "", 0, nil, impl.GetBad
	}
	w := &wordsReader{bits: bitsOf(text, false), limit: limit}
	defer func() {
		if met := recover(); met != nil {
			out, used, kinds, code = "", 0, nil, int(met.(wordsFault))
		}
	}()
	w.blocks()
	return string(w.out), (w.at + 7) / 8, w.kinds, impl.GetDone
}

// tokensByWords looks at every distance.
func tokensByWords(text string) []impl.Token {
	var tokens []impl.Token
	for at := 0; at < len(text); {
		best := impl.Token{Byte: int(text[at])}
		longest := 2
		for d := 1; d <= at; d++ {
			n := 0
			for n < 258 && at+n < len(text) && text[at+n-d] == text[at+n] {
				n++
			}
			if n > longest {
				longest = n
				best = impl.Token{Size: n, Dist: d}
			}
		}
		tokens = append(tokens, best)
		at += max(1, best.Size)
	}
	return tokens
}

// greatest is the place of the greatest number that is not above n.
func greatest(leasts []int, n int) int {
	place := 0
	for i, least := range leasts {
		if least <= n {
			place = i
		}
	}
	return place
}

// tokenFigures is tokens, and the end of the block, by two codes.
func tokenFigures(tokens []impl.Token, symbols []int, dists []int) string {
	var b strings.Builder
	for _, token := range tokens {
		if token.Size == 0 {
			b.WriteString(coded(symbols, token.Byte))
			continue
		}
		n := greatest(sizeLeasts, token.Size)
		b.WriteString(coded(symbols, 257+n) + low(token.Size-sizeLeasts[n], sizeFurther[n]))
		d := greatest(distLeasts, token.Dist)
		b.WriteString(coded(dists, d) + low(token.Dist-distLeasts[d], distFurther[d]))
	}
	return b.String() + coded(symbols, 256)
}

// upTo is how many there are without noughts at the end, so many at least.
func upTo(list []int, least int) int {
	for n := len(list); n > least; n-- {
		if list[n-1] != 0 {
			return n
		}
	}
	return least
}

// oftenByWords is how often each symbol comes, and each one of distances.
func oftenByWords(tokens []impl.Token) ([]int, []int) {
	symbols, dists := make([]int, 286), make([]int, 30)
	symbols[256] = 1
	for _, token := range tokens {
		if token.Size == 0 {
			symbols[token.Byte]++
		} else {
			symbols[257+greatest(sizeLeasts, token.Size)]++
			dists[greatest(distLeasts, token.Dist)]++
		}
	}
	return symbols, dists
}

// runsByWords is lengths as symbols of 0..18, each with its further bits.
func runsByWords(lengths []int) (symbols []int, further []string) {
	for at := 0; at < len(lengths); {
		n := 0
		for at+n < len(lengths) && lengths[at+n] == lengths[at] {
			n++
		}
		symbol, bits := lengths[at], ""
		switch {
		case lengths[at] == 0 && n >= 11:
			n = min(n, 138)
			symbol, bits = 18, low(n-11, 7)
		case lengths[at] == 0 && n >= 3:
			symbol, bits = 17, low(n-3, 3)
		case at > 0 && lengths[at] == lengths[at-1] && n >= 3:
			n = min(n, 6)
			symbol, bits = 16, low(n-3, 2)
		default:
			n = 1
		}
		symbols, further = append(symbols, symbol), append(further, bits)
		at += n
	}
	return symbols, further
}

// ownByWords is PackOwn, behind the three bits that begin a block.
func ownByWords(tokens []impl.Token) string {
	symbolsOften, distsOften := oftenByWords(tokens)
	symbols, _ := fitByWords(symbolsOften, impl.CodeMax)
	dists, _ := fitByWords(distsOften, impl.CodeMax)
	a, b := upTo(symbols, 257), upTo(dists, 1)
	runs, further := runsByWords(slices.Concat(symbols[:a], dists[:b]))
	often := make([]int, 19)
	for _, symbol := range runs {
		often[symbol]++
	}
	ofLengths, _ := fitByWords(often, 7)
	var ordered []int
	for _, symbol := range orderOfC {
		ordered = append(ordered, ofLengths[symbol])
	}
	c := upTo(ordered, 4)
	bits := low(a-257, 5) + low(b-1, 5) + low(c-4, 4)
	for _, length := range ordered[:c] {
		bits += low(length, 3)
	}
	for i, symbol := range runs {
		bits += coded(ofLengths, symbol) + further[i]
	}
	return bits + tokenFigures(tokens, symbols, dists)
}

// blockByWords is a block of a kind as figures, behind so many bits.
func blockByWords(last string, behind int, text string, kind int) string {
	switch kind {
	case impl.PackNone:
		return plainFigures(last, behind, text)
	case impl.PackFixed:
		return last + "10" + tokenFigures(tokensByWords(text), fixedSyms, fixedDists)
	}
	return last + "01" + ownByWords(tokensByWords(text))
}

// patchwork is a text in which much comes again: near and far, short and long.
func patchwork(r *rand.Rand, size int) string {
	letters := 1 + r.Intn(1<<r.Intn(9))
	var b []byte
	for len(b) < size {
		if len(b) == 0 || r.Intn(3) == 0 {
			for range 1 + r.Intn(12) {
				b = append(b, byte(r.Intn(letters)))
			}
			continue
		}
		dist := 1 + r.Intn(min(len(b), 1<<r.Intn(13)))
		for range 1 + r.Intn(1<<r.Intn(10)) {
			b = append(b, b[len(b)-dist])
		}
	}
	return string(b[:size])
}

// packTexts are texts to be packed, of at most OutMax bytes, the edges among them.
func packTexts() []string {
	all := make([]byte, 256)
	for i := range all {
		all[i] = byte(i)
	}
	texts := []string{
		"", "a", "aa", "aaa", "aaaa", "ab", "abab", "ababa", "abcabc", "abcabcabcd", "\x00", "\xff\xff\xff\xff\xff", string(all), string(all) + string(all),
		strings.Repeat("\x00", impl.OutMax), strings.Repeat("abc", impl.OutMax/3) + "ab", "the quick brown fox jumps over the lazy dog, and the lazy dog jumps over the quick brown fox",
	}
	for _, size := range []int{255, 256, 257, 258, 259, 260, 261, 262, 515, 516, 517, 518, 519, 600} {
		texts = append(texts, strings.Repeat("a", size), strings.Repeat("xyz", size)[:size]+"!")
	}
	r := dice(41)
	far := someText(r, impl.OutMax-3)
	texts = append(texts, someText(r, impl.OutMax), far+far[:3], far+far[1:4])
	for range 60 {
		texts = append(texts, patchwork(r, r.Intn(700)))
	}
	for range 6 {
		texts = append(texts, patchwork(r, impl.OutMax-r.Intn(2)))
	}
	// As uneven as can be, in order and not.
	steep := ""
	for i, n := range fibonacci(17) {
		steep += strings.Repeat(string(rune('a'+i)), n)
	}
	shuffled := []byte(steep)
	r.Shuffle(len(shuffled), func(i, j int) { shuffled[i], shuffled[j] = shuffled[j], shuffled[i] })
	return append(texts, steep, string(shuffled))
}

// anyBits is figures that say anything.
func anyBits(r *rand.Rand, count int) string {
	b := make([]byte, count)
	for i := range b {
		b[i] = '0' + byte(r.Intn(2))
	}
	return string(b)
}

// someLengths is a code that a block may have, of so many symbols.
func someLengths(r *rand.Rand, count int, always int) []int {
	often := make([]int, count)
	for range r.Intn(40) {
		often[r.Intn(count)] = 1 + r.Intn(1<<r.Intn(10))
	}
	if always >= 0 {
		often[always] = 1
	}
	return impl.CodeFit(often, 8+r.Intn(8))
}

// someBlocks is blocks of all kinds, of which most can be read for a while.
func someBlocks(r *rand.Rand) string {
	bits := ""
	for count := 1 + r.Intn(4); count > 0; count-- {
		last := "0"
		if count == 1 {
			last = "1"
		}
		switch r.Intn(5) {
		case 0:
			bits += plainFigures(last, len(bits), someText(r, r.Intn(20)))
		case 1:
			bits += last + "10" + anyBits(r, r.Intn(60)) + coded(fixedSyms, 256)
		case 2:
			symbols := someLengths(r, 257+r.Intn(30), 256)
			bits += ownFigures(last, symbols, someLengths(r, 1+r.Intn(30), -1)) + anyBits(r, r.Intn(200)) + coded(symbols, 256)
		default:
			bits += blockByWords(last, len(bits), patchwork(r, r.Intn(80)), r.Intn(3))
		}
	}
	return bits
}
