package tests

import (
	"math/rand"
	"slices"
	"strings"

	"loop.example/intarsia/impl"
)

// lzwWay is bits and wide, as they may be.
type lzwWay struct {
	bits int
	wide bool
}

var lzwWays = []lzwWay{{2, false}, {3, false}, {4, false}, {5, false}, {6, false}, {7, false}, {8, false}, {8, true}}

// noLzwWays are bits and wide, as they may not be.
func noLzwWays() []lzwWay {
	ways := []lzwWay{{0, false}, {1, false}, {9, false}, {10, false}, {12, false}}
	for bits := range 20 {
		if bits != 8 {
			ways = append(ways, lzwWay{bits, true})
		}
	}
	for _, bits := range extremes {
		ways = append(ways, lzwWay{bits, false}, lzwWay{bits, true})
	}
	return ways
}

// highText packs figures, the highest bit of each byte first, with noughts behind up to whole bytes.
func highText(bits string) string {
	text := make([]byte, (len(bits)+7)/8)
	for i := range len(bits) {
		text[i/8] |= (bits[i] - '0') << (7 - i%8)
	}
	return string(text)
}

// lzwText packs figures as a way does.
func lzwText(bits string, way lzwWay) string {
	if way.wide {
		return highText(bits)
	}
	return textOf(bits)
}

// lzwWidth is W of the document, when so many are known.
func lzwWidth(way lzwWay, known int) int {
	if way.wide {
		known++
	}
	for w := way.bits + 1; w < 12; w++ {
		if known < 1<<w {
			return w
		}
	}
	return 12
}

// lzwBook is what numbers stand for, as the document words it: bytes, clear, end, and what comes to be known.
type lzwBook struct {
	way   lzwWay
	texts []string
	last  string
}

func newLzwBook(way lzwWay) *lzwBook {
	b := &lzwBook{way: way}
	for n := range 1 << way.bits {
		b.texts = append(b.texts, string([]byte{byte(n)}))
	}
	b.texts = append(b.texts, "clear", "end")
	return b
}

func (b *lzwBook) clear() int {
	return 1 << b.way.bits
}

func (b *lzwBook) end() int {
	return b.clear() + 1
}

func (b *lzwBook) width() int {
	return lzwWidth(b.way, len(b.texts))
}

// read is what a number puts out; false if it is bad. (Not asked for end.)
func (b *lzwBook) read(number int) (string, bool) {
	if number == b.clear() {
		*b = *newLzwBook(b.way)
		return "", true
	}
	text := ""
	switch {
	case number < len(b.texts):
		text = b.texts[number]
	case number == len(b.texts) && b.last != "":
		text = b.last + b.last[:1]
	default:
		return "", false
	}
	if b.last != "" && len(b.texts) < 4096 {
		b.texts = append(b.texts, b.last+text[:1])
	}
	b.last = text
	return text, true
}

// lzwGetByWords is what LzwGet and LzwCodes must tell.
func lzwGetByWords(text string, way lzwWay, limit int) (string, []int, int) {
	if !slices.Contains(lzwWays, way) || len(text) > impl.TextMax || limit < 0 || limit > impl.OutMax {
		return "", nil, impl.GetBad
	}
	bits := bitsOf(text, way.wide)
	book := newLzwBook(way)
	var out strings.Builder
	var numbers []int
	for {
		w := book.width()
		if len(bits) < w {
			return "", nil, impl.GetShort
		}
		number := 0
		for i := range w {
			place := i
			if way.wide {
				place = w - 1 - i
			}
			number += int(bits[i]-'0') << place
		}
		bits = bits[w:]
		numbers = append(numbers, number)
		if number == book.end() {
			return out.String(), numbers, impl.GetDone
		}
		put, ok := book.read(number)
		if !ok {
			return "", nil, impl.GetBad
		}
		if out.Len()+len(put) > limit {
			return "", nil, impl.GetLong
		}
		out.WriteString(put)
	}
}

// lzwNumbers packs numbers, each of as many bits as whoever reads takes; one that is bad ends what is known, not the text.
func lzwNumbers(way lzwWay, numbers ...int) string {
	book := newLzwBook(way)
	var bits strings.Builder
	for _, number := range numbers {
		if number >= 1<<book.width() {
			panic("there is no room for such a number")
		}
		bits.WriteString(figures(number, book.width(), way.wide))
		if number != book.end() {
			book.read(number)
		}
	}
	return lzwText(bits.String(), way)
}

// lzwPutByWords is the numbers that LzwPut must write: whole texts are known, and each size is tried.
func lzwPutByWords(text string, way lzwWay) []int {
	clear := 1 << way.bits
	most := 4095
	if way.wide {
		most = 4094
	}
	known := map[string]int{}
	count := 0
	longest := 0
	atFirst := func() {
		known = map[string]int{}
		for n := range clear {
			known[string([]byte{byte(n)})] = n
		}
		count, longest = clear+2, 1
	}
	atFirst()
	numbers := []int{clear}
	for len(text) > 0 {
		size := min(longest, len(text))
		for {
			if _, ok := known[text[:size]]; ok {
				break
			}
			size--
		}
		numbers = append(numbers, known[text[:size]])
		if size < len(text) {
			known[text[:size+1]] = count
			count++
			longest = max(longest, size+1)
			if count == most {
				numbers = append(numbers, clear)
				atFirst()
			}
		}
		text = text[size:]
	}
	return append(numbers, clear+1)
}

// narrow is a text with only so many bits of each byte.
func narrow(text string, bits int) string {
	b := []byte(text)
	for i := range b {
		b[i] &= 1<<bits - 1
	}
	return string(b)
}

// unlikePairs is so many bytes of which no two that are neighbours stand again: each is a number of its own.
func unlikePairs(size int) string {
	var b []byte
	for first := 0; len(b) < size; first++ {
		b = append(b, byte(first))
		for second := first + 1; second < 256; second++ {
			b = append(b, byte(first), byte(second))
		}
	}
	return string(b[:size])
}

// lzwTexts are texts to be packed in a way, the edges among them.
func lzwTexts(way lzwWay) []string {
	var texts []string
	for i, text := range packTexts() {
		if i%4 == way.bits%4 || len(text) < 10 || len(text) > 4000 {
			texts = append(texts, narrow(text, way.bits))
		}
	}
	if way.bits == 8 {
		for _, size := range []int{3834, 3835, 3836, 3837, 3838, 3839, 3840, impl.OutMax} {
			texts = append(texts, unlikePairs(size))
		}
	}
	return texts
}

// someNumbers is numbers of which most are known, or known next.
func someNumbers(r *rand.Rand, way lzwWay) []int {
	book := newLzwBook(way)
	var numbers []int
	for range r.Intn(1 << r.Intn(9)) {
		number := r.Intn(len(book.texts))
		switch r.Intn(12) {
		case 0:
			number = book.clear()
		case 1, 2, 3:
			number = len(book.texts)
		case 4:
			if r.Intn(8) == 0 {
				number = r.Intn(1 << book.width())
			}
		}
		if number == book.end() && r.Intn(4) > 0 || number >= 1<<book.width() {
			continue
		}
		numbers = append(numbers, number)
		if number != book.end() {
			book.read(number)
		}
	}
	return append(numbers, book.end())
}
