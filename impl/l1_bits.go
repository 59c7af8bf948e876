// Package impl: pictures in several formats, read and written without any loss.
package impl

// Limits of bits and texts.
const (
	TextMax = 9000
	BitsMax = 24
)

// Bit is some bits: a number, and of how many bits it is.
type Bit struct {
	Value int
	Size  int
}

// bitOrder tells the place in a number of so many bits (or bytes) of the one that goes as the i-th.
type bitOrder func(i int, size int) int

// bitStream is bits that go by one at a time: a writer takes each in, a reader hands each out.
type bitStream interface {
	// room is how many more bits can go by.
	room() int
	// next lets one bit go by, and tells it; a reader does not heed the one it is given.
	next(bit int) int
}

// bitWriter makes a text of bits.
type bitWriter struct {
	order bitOrder
	bytes []byte
	count int
}

// bitReader takes bits of a text, from the bit at on.
type bitReader struct {
	order bitOrder
	text  string
	at    int
}

// orderOf is the one place that knows which bit comes first.
func orderOf(high bool) bitOrder {
	if high {
		return func(i int, size int) int { return size - 1 - i }
	}
	return func(i int, size int) int { return i }
}

func (w *bitWriter) room() int {
	return 8*TextMax - w.count
}

func (w *bitWriter) next(bit int) int {
	if w.count%8 == 0 {
		w.bytes = append(w.bytes, 0)
	}
	w.bytes[w.count/8] |= byte(bit << w.order(w.count%8, 8))
	w.count++
	return bit
}

func (r *bitReader) room() int {
	return 8*len(r.text) - r.at
}

func (r *bitReader) next(int) int {
	bit := int(r.text[r.at/8]) >> r.order(r.at%8, 8) & 1
	r.at++
	return bit
}

// moveBits lets a number of so many bits go by, and tells it; false, and none goes, if there is no room for all.
func moveBits(s bitStream, order bitOrder, n int, size int) (int, bool) {
	if s.room() < size {
		return 0, false
	}
	got := 0
	for i := range size {
		place := order(i, size)
		got |= s.next(n>>place&1) << place
	}
	return got, true
}

// bitOk says whether a number is within its bits.
func bitOk(b Bit) bool {
	return b.Size >= 0 && b.Size <= BitsMax && b.Value >= 0 && b.Value>>b.Size == 0
}

// BitsPut packs bits into bytes: the lowest ones first, or the highest ones.
func BitsPut(list []Bit, high bool) string {
	order := orderOf(high)
	out := &bitWriter{order: order}
	for _, b := range list {
		if !bitOk(b) {
			return ""
		}
		if _, ok := moveBits(out, order, b.Value, b.Size); !ok {
			return ""
		}
	}
	return string(out.bytes)
}

// BitsGet is so many bits of a text, from a bit on.
func BitsGet(text string, at int, size int, high bool) (int, bool) {
	if size < 0 || size > BitsMax || len(text) > TextMax || at < 0 {
		return 0, false
	}
	order := orderOf(high)
	return moveBits(&bitReader{order: order, text: text, at: at}, order, 0, size)
}

// NumPut writes a number in bytes: the lowest one first, or the highest one.
func NumPut(n int, size int, big bool) string {
	if size < 1 || size > 4 || n < 0 || n>>(8*size) != 0 {
		return ""
	}
	order := orderOf(big)
	out := make([]byte, size)
	for i := range out {
		out[i] = byte(n >> (8 * order(i, size)))
	}
	return string(out)
}

// NumGet is the number of some bytes of a text.
func NumGet(text string, at int, size int, big bool) (int, bool) {
	// at and size are not added: their sum may be more than an int holds.
	if size < 1 || size > 4 || len(text) > TextMax || at < 0 || at > len(text)-size {
		return 0, false
	}
	order := orderOf(big)
	n := 0
	for i := range size {
		n |= int(text[at+i]) << (8 * order(i, size))
	}
	return n, true
}
