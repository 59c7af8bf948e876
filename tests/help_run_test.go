package tests

import (
	"math/rand"
	"slices"

	"loop.example/intarsia/impl"
)

// sameFrom is how many from a place on are the same.
func sameFrom[T comparable](list []T, at int) int {
	n := 0
	for at+n < len(list) && list[at+n] == list[at] {
		n++
	}
	return n
}

// stretchesByWords is the sizes of packets, as the document words it: below 0 for such as are the same.
func stretchesByWords[T comparable](list []T, least int) []int {
	var sizes []int
	for at := 0; at < len(list); {
		if n := sameFrom(list, at); n >= least {
			n = min(n, 128)
			sizes = append(sizes, -n)
			at += n
			continue
		}
		end := at + 1
		for end < len(list) && sameFrom(list, end) < least {
			end++
		}
		n := min(end-at, 128)
		sizes = append(sizes, n)
		at += n
	}
	return sizes
}

// packByWords is what PackPut must tell.
func packByWords(text string) string {
	if len(text) > impl.OutMax {
		return ""
	}
	out := ""
	for _, size := range stretchesByWords([]byte(text), 3) {
		if size < 0 {
			out += string([]byte{byte(257 + size), text[0]})
			text = text[-size:]
		} else {
			out += string([]byte{byte(size - 1)}) + text[:size]
			text = text[size:]
		}
	}
	return out
}

// packGetByWords is what PackGet must tell.
func packGetByWords(text string, limit int) (string, int) {
	if len(text) > impl.TextMax || limit < 0 || limit > impl.OutMax {
		return "", impl.GetBad
	}
	out := ""
	for text != "" {
		n := int(text[0])
		text = text[1:]
		switch {
		case n < 128:
			if len(text) < n+1 {
				return "", impl.GetShort
			}
			out, text = out+text[:n+1], text[n+1:]
		case n > 128:
			if text == "" {
				return "", impl.GetShort
			}
			for range 257 - n {
				out += text[:1]
			}
			text = text[1:]
		}
		if len(out) > limit {
			return "", impl.GetLong
		}
	}
	return out, impl.GetDone
}

// lowBytes is a number in so many bytes, the lowest first.
func lowBytes(n int, size int) string {
	out := ""
	for range size {
		out += string([]byte{byte(n % 256)})
		n /= 256
	}
	return out
}

// runByWords is what RunPut must tell of numbers that fit.
func runByWords(list []int, size int) string {
	out := ""
	for _, n := range stretchesByWords(list, 2) {
		if n < 0 {
			out += lowBytes(127-n, 1) + lowBytes(list[0], size)
			list = list[-n:]
			continue
		}
		out += lowBytes(n-1, 1)
		for _, number := range list[:n] {
			out += lowBytes(number, size)
		}
		list = list[n:]
	}
	return out
}

// runGetByWords is what RunGet must tell.
func runGetByWords(text string, at int, size int, count int) ([]int, int, bool) {
	if size < 1 || size > 4 || count < 0 || count > 1000 || at < 0 || at > len(text) || len(text) > impl.TextMax {
		return nil, 0, false
	}
	number := func(at int) int {
		n := 0
		for i := size - 1; i >= 0; i-- {
			n = 256*n + int(text[at+i])
		}
		return n
	}
	var list []int
	for len(list) < count {
		if at == len(text) {
			return nil, 0, false
		}
		n := int(text[at])
		at++
		numbers, times := n+1, 1
		if n >= 128 {
			numbers, times = 1, n-127
		}
		if at+numbers*size > len(text) || len(list)+numbers*times > count {
			return nil, 0, false
		}
		for range times {
			for i := range numbers {
				list = append(list, number(at+i*size))
			}
		}
		at += numbers * size
	}
	return list, at, true
}

// rleByWords is what RlePut must tell of rows that are ok.
func rleByWords(rows [][]int) string {
	out := ""
	for i, row := range rows {
		if i > 0 {
			out += "\x00\x00"
		}
		for at := 0; at < len(row); {
			n := min(sameFrom(row, at), 255)
			out += lowBytes(n, 1) + lowBytes(row[at], 1)
			at += n
		}
	}
	return out + "\x00\x01"
}

// rleGetByWords is what RleGet must tell: what is put is kept by its place, and looked at when all is read.
func rleGetByWords(text string, wide int, high int) ([][]int, bool) {
	if wide < 0 || wide > 100 || high < 0 || high > 100 || len(text) > impl.TextMax {
		return nil, false
	}
	put := map[[2]int]int{}
	x, y := 0, 0
	for {
		if len(text) < 2 {
			return nil, false
		}
		n, b := int(text[0]), int(text[1])
		text = text[2:]
		if n == 0 && b == 1 {
			break
		}
		if n == 0 && b == 2 && len(text) < 2 || n == 0 && b > 2 && len(text) < (b+1)/2*2 {
			return nil, false
		}
		switch {
		case n > 0:
			for range n {
				put[[2]int{x, y}] = b
				x++
			}
		case b == 0:
			x, y = 0, y+1
		case b == 2:
			x, y = x+int(text[0]), y+int(text[1])
			text = text[2:]
		default:
			for i := range b {
				put[[2]int{x, y}] = int(text[i])
				x++
			}
			text = text[(b+1)/2*2:]
		}
	}
	rows := make([][]int, high)
	for i := range rows {
		rows[i] = make([]int, wide)
	}
	for place, b := range put {
		if place[0] >= wide || place[1] >= high {
			return nil, false
		}
		rows[place[1]][place[0]] = b
	}
	return rows, text == ""
}

// runSizes are sizes of runs that something changes at.
var runSizes = []int{1, 2, 3, 4, 5, 126, 127, 128, 129, 130, 131, 132, 254, 255, 256, 257, 258, 259, 300, 383, 384, 385, 386, 387}

// runList is numbers below most, with runs of all sizes among them.
func runList(r *rand.Rand, size int, most int) []int {
	var list []int
	for len(list) < size {
		switch r.Intn(4) {
		case 0:
			list = append(list, same(r.Intn(most), runSizes[r.Intn(len(runSizes))])...)
		case 1:
			for range runSizes[r.Intn(len(runSizes))] {
				list = append(list, r.Intn(most))
			}
		default:
			list = append(list, same(r.Intn(most), 1+r.Intn(4))...)
		}
	}
	return list[:size]
}

// edgeRuns is two runs, one behind the other, of sizes that something changes at, and the same with something unlike around.
func edgeRuns() [][]int {
	unlike := func(size int) []int {
		list := make([]int, size)
		for i := range list {
			list[i] = 10 + i%7
		}
		return list
	}
	lists := [][]int{nil}
	for _, n := range runSizes {
		lists = append(lists, same(5, n), unlike(n), slices.Concat(unlike(2), same(5, n)), slices.Concat(same(5, n), unlike(2)))
		for _, k := range []int{1, 2, 3, 127, 128, 129} {
			lists = append(lists, slices.Concat(same(5, n), same(6, k)), slices.Concat(unlike(n), same(6, k)), slices.Concat(unlike(n), same(6, k), unlike(3)), slices.Concat(same(5, n), unlike(k), same(6, 3)))
		}
	}
	return lists
}

// asText is numbers as bytes.
func asText(list []int) string {
	b := make([]byte, len(list))
	for i, n := range list {
		b[i] = byte(n)
	}
	return string(b)
}

// someRows is rows of bytes, of any sizes, or all as wide.
func someRows(r *rand.Rand, high int, wide int, ragged bool) [][]int {
	rows := make([][]int, high)
	for i := range rows {
		size := wide
		if ragged {
			size = r.Intn(wide + 1)
		}
		rows[i] = runList(r, size, 1+r.Intn(256))
	}
	return rows
}

// someRle is bytes as a BMP may have them, of which most stand within so many rows, so wide.
func someRle(r *rand.Rand, wide int, high int) string {
	out := ""
	for range r.Intn(30) {
		switch r.Intn(6) {
		case 0:
			out += "\x00\x00"
		case 1:
			out += "\x00\x02" + lowBytes(r.Intn(wide/4+2), 1) + lowBytes(r.Intn(high/4+2), 1)
		case 2:
			n := 3 + r.Intn(wide/4+3)
			out += "\x00" + lowBytes(n, 1) + someText(r, (n+1)/2*2)
		default:
			out += lowBytes(1+r.Intn(wide/4+1), 1) + someText(r, 1)
		}
	}
	if r.Intn(20) > 0 {
		out += "\x00\x01"
	}
	return out
}
