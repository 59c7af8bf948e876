package tests

import (
	"math"
	"math/rand"
	"slices"
	"strings"
	"testing"
)

// extremes are numbers that are wrong for most arguments, whatever these bound.
var extremes = []int{math.MinInt, math.MinInt + 1, math.MinInt32, -1 << 40, -1, 1 << 40, math.MaxInt32, math.MaxInt - 1, math.MaxInt}

// dice is the same row of numbers each time, so that a fault that shows once shows again.
func dice(seed int64) *rand.Rand {
	return rand.New(rand.NewSource(seed))
}

// someText is a text of so many bytes.
func someText(r *rand.Rand, size int) string {
	var b strings.Builder
	for range size {
		b.WriteByte(byte(r.Intn(256)))
	}
	return b.String()
}

// bitsOf writes a text's bits as figures, in the words of the document: of each byte the lowest first, or the highest.
func bitsOf(text string, high bool) string {
	var b strings.Builder
	for i := range len(text) {
		for k := range 8 {
			place := k
			if high {
				place = 7 - k
			}
			b.WriteByte('0' + text[i]>>place&1)
		}
	}
	return b.String()
}

// figures writes a number of so many bits as figures, the lowest first, or the highest.
func figures(n int, size int, high bool) string {
	b := make([]byte, size)
	for i := range b {
		b[i] = '0' + byte(n>>i&1)
	}
	if high {
		slices.Reverse(b)
	}
	return string(b)
}

// turnBit is a text of which one bit is another one.
func turnBit(text string, bit int) string {
	b := []byte(text)
	b[bit/8] ^= 1 << (bit % 8)
	return string(b)
}

// same repeats a number.
func same(n int, times int) []int {
	return slices.Repeat([]int{n}, times)
}

// guarded lays a list into memory with something of its own behind the end; check tells whether any of that was written.
func guarded[T comparable](list []T, behind T) (laid []T, check func(t *testing.T, what string)) {
	memory := append(slices.Clone(list), behind, behind, behind, behind)
	before := slices.Clone(memory)
	return memory[:len(list)], func(t *testing.T, what string) {
		t.Helper()
		if !slices.Equal(memory, before) {
			t.Errorf("%s: an argument was written into", what)
		}
	}
}

// spoil overwrites a list with its spare room.
func spoil[T any](list []T, with T) {
	list = list[:cap(list)]
	for i := range list {
		list[i] = with
	}
}
