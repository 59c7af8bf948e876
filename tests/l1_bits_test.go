package tests

import (
	"math/rand"
	"slices"
	"strings"
	"testing"

	"loop.example/intarsia/impl"
)

func someBits(r *rand.Rand, count int) []impl.Bit {
	list := make([]impl.Bit, count)
	for i := range list {
		size := r.Intn(impl.BitsMax + 1)
		list[i] = impl.Bit{Value: r.Intn(1 << size), Size: size}
	}
	return list
}

func bitsLong(list []impl.Bit) int {
	long := 0
	for _, b := range list {
		long += b.Size
	}
	return long
}

// checkPacked holds packed bits against the document's words, and reads them one behind the other.
func checkPacked(t *testing.T, list []impl.Bit, high bool) {
	t.Helper()
	text := impl.BitsPut(list, high)
	long := bitsLong(list)
	if len(text) != (long+7)/8 {
		t.Fatalf("%d bits in %d bytes", long, len(text))
	}
	var want strings.Builder
	at := 0
	for i, b := range list {
		want.WriteString(figures(b.Value, b.Size, high))
		if n, ok := impl.BitsGet(text, at, b.Size, high); n != b.Value || !ok {
			t.Fatalf("number %d at %d: %d %v, not %d", i, at, n, ok, b.Value)
		}
		at += b.Size
	}
	want.WriteString(strings.Repeat("0", 8*len(text)-long))
	if got := bitsOf(text, high); got != want.String() {
		t.Fatalf("bits %s, not %s", got, want.String())
	}
}

func TestPromise1BitsAreWhereTheyWerePut(t *testing.T) {
	r := dice(1)
	for range 200 {
		list := someBits(r, r.Intn(40))
		checkPacked(t, list, false)
		checkPacked(t, list, true)
	}
	for size := range impl.BitsMax + 1 {
		for _, high := range []bool{false, true} {
			checkPacked(t, []impl.Bit{{Value: 1<<size - 1, Size: size}, {}, {Value: 1 << size >> 1, Size: size}}, high)
			checkPacked(t, []impl.Bit{{Value: 1, Size: 3}, {Value: 1 << size >> 1, Size: size}}, high)
		}
	}
}

func TestBitsPutByHand(t *testing.T) {
	for i, c := range []struct {
		list      []impl.Bit
		low, high string
	}{
		{nil, "", ""},
		{[]impl.Bit{}, "", ""},
		{[]impl.Bit{{}, {}}, "", ""},
		{[]impl.Bit{{Value: 1, Size: 1}}, "\x01", "\x80"},
		{[]impl.Bit{{Value: 1, Size: 8}}, "\x01", "\x01"},
		{[]impl.Bit{{Value: 6, Size: 3}}, "\x06", "\xc0"},
		{[]impl.Bit{{Value: 0, Size: 9}}, "\x00\x00", "\x00\x00"},
		{[]impl.Bit{{Value: 0x123456, Size: 24}}, "\x56\x34\x12", "\x12\x34\x56"},
		{[]impl.Bit{{Value: 1, Size: 1}, {Value: 0xab, Size: 8}}, "\x57\x01", "\xd5\x80"},
	} {
		if low := impl.BitsPut(c.list, false); low != c.low {
			t.Errorf("%d low: %x", i, low)
		}
		if high := impl.BitsPut(c.list, true); high != c.high {
			t.Errorf("%d high: %x", i, high)
		}
	}
}

func TestBitsPutLimit(t *testing.T) {
	full := slices.Repeat([]impl.Bit{{Value: 1<<24 - 1, Size: 24}}, impl.TextMax/3)
	ones := slices.Repeat([]impl.Bit{{Value: 1, Size: 1}}, 8*impl.TextMax)
	nearly := append(slices.Clone(full[1:]), impl.Bit{Value: 1<<23 - 1, Size: 23})
	for _, high := range []bool{false, true} {
		all := strings.Repeat("\xff", impl.TextMax)
		if impl.BitsPut(full, high) != all || impl.BitsPut(ones, high) != all {
			t.Error("8 times TextMax bits are refused")
		}
		if impl.BitsPut(append(slices.Clone(full), impl.Bit{}), high) != all {
			t.Error("no bit more is refused")
		}
		if impl.BitsPut(append(slices.Clone(full), impl.Bit{Size: 1}), high) != "" {
			t.Error("a bit more than 8 times TextMax is taken")
		}
		if len(impl.BitsPut(append(slices.Clone(nearly), impl.Bit{Size: 1}), high)) != impl.TextMax {
			t.Error("the last bit is refused")
		}
		if impl.BitsPut(append(slices.Clone(nearly), impl.Bit{Size: 2}), high) != "" {
			t.Error("two bits where one has room are taken")
		}
		if impl.BitsPut(slices.Repeat(full, 20), high) != "" {
			t.Error("far too many are taken")
		}
		many := append(make([]impl.Bit, 100000), impl.Bit{Value: 1, Size: 1})
		if len(impl.BitsPut(many, high)) != 1 {
			t.Error("many of no bits are refused")
		}
	}
}

func TestBitsPutWrong(t *testing.T) {
	wrong := []impl.Bit{{Value: 1}, {Value: -1}, {Value: -1, Size: 24}, {Size: -1}, {Size: 25}, {Value: 1, Size: 25}, {Value: 2, Size: 1}}
	for size := range impl.BitsMax + 1 {
		wrong = append(wrong, impl.Bit{Value: 1 << size, Size: size}, impl.Bit{Value: -1 << size, Size: size})
	}
	for _, n := range extremes {
		wrong = append(wrong, impl.Bit{Size: n}, impl.Bit{Value: n, Size: 8}, impl.Bit{Value: n, Size: n})
	}
	good := impl.Bit{Value: 5, Size: 3}
	for _, b := range wrong {
		for _, list := range [][]impl.Bit{{b}, {b, good}, {good, good, b}} {
			if low, high := impl.BitsPut(list, false), impl.BitsPut(list, true); low != "" || high != "" {
				t.Errorf("%v: %x %x", list, low, high)
			}
		}
	}
}

func TestPromise2SomeBitsAndSomeMore(t *testing.T) {
	text := someText(dice(2), 9)
	for at := range 8 * len(text) {
		for size := 0; size <= impl.BitsMax && at+size <= 8*len(text); size++ {
			low, ok1 := impl.BitsGet(text, at, size, false)
			high, ok2 := impl.BitsGet(text, at, size, true)
			if !ok1 || !ok2 {
				t.Fatalf("%d from %d: none", size, at)
			}
			if figures(low, size, false) != bitsOf(text, false)[at:at+size] || figures(high, size, true) != bitsOf(text, true)[at:at+size] {
				t.Fatalf("%d from %d: %d %d", size, at, low, high)
			}
			for first := range size + 1 {
				low1, _ := impl.BitsGet(text, at, first, false)
				low2, _ := impl.BitsGet(text, at+first, size-first, false)
				high1, _ := impl.BitsGet(text, at, first, true)
				high2, _ := impl.BitsGet(text, at+first, size-first, true)
				if low != low1|low2<<first || high != high1<<(size-first)|high2 {
					t.Fatalf("%d and %d from %d: %d %d", first, size-first, at, low, high)
				}
			}
		}
	}
}

func TestBitsGetEdges(t *testing.T) {
	most := strings.Repeat("\x00", impl.TextMax-1) + "\x81"
	end := 8 * impl.TextMax
	for i, c := range []struct {
		text     string
		at, size int
		low      int
		high     int
		ok       bool
	}{
		{"", 0, 0, 0, 0, true},
		{"", 0, 1, 0, 0, false},
		{"", 1, 0, 0, 0, false},
		{"", -1, 0, 0, 0, false},
		{"\x01", 8, 0, 0, 0, true},
		{"\x01", 9, 0, 0, 0, false},
		{"\x01", 7, 1, 0, 1, true},
		{"\x01", 0, 1, 1, 0, true},
		{"\x01", 8, 1, 0, 0, false},
		{"\x01", 7, 2, 0, 0, false},
		{"\x01", -1, 2, 0, 0, false},
		{"\x01", 0, 9, 0, 0, false},
		{"\x01\x02\x03\x04", 0, 24, 0x030201, 0x010203, true},
		{"\x01\x02\x03\x04", 8, 24, 0x040302, 0x020304, true},
		{"\x01\x02\x03\x04", 9, 24, 0, 0, false},
		{"\x01\x02\x03\x04", 0, 25, 0, 0, false},
		{"\x01\x02\x03\x04", 3, -1, 0, 0, false},
		{most, end - 8, 8, 0x81, 0x81, true},
		{most, end - 1, 1, 1, 1, true},
		{most, end - 24, 24, 0x810000, 0x81, true},
		{most, end, 0, 0, 0, true},
		{most, end, 1, 0, 0, false},
		{most + "\x00", 0, 1, 0, 0, false},
		{most + "\x00", 0, 0, 0, 0, false},
	} {
		if low, ok := impl.BitsGet(c.text, c.at, c.size, false); low != c.low || ok != c.ok {
			t.Errorf("%d low: %d %v", i, low, ok)
		}
		if high, ok := impl.BitsGet(c.text, c.at, c.size, true); high != c.high || ok != c.ok {
			t.Errorf("%d high: %d %v", i, high, ok)
		}
	}
	for _, n := range extremes {
		for _, c := range [][2]int{{n, 0}, {n, 8}, {0, n}, {8, n}, {n, n}, {n, 24}} {
			if got, ok := impl.BitsGet("abcd", c[0], c[1], n%2 == 0); got != 0 || ok {
				t.Errorf("at %d size %d: %d %v", c[0], c[1], got, ok)
			}
		}
	}
}

func backward(text string) string {
	b := []byte(text)
	slices.Reverse(b)
	return string(b)
}

func TestPromise3NumbersAreWrittenAndRead(t *testing.T) {
	r := dice(3)
	for size := 1; size <= 4; size++ {
		least, most := 0, 1<<(8*size)-1
		list := []int{least, 1, most - 1, most, most / 2, most/2 + 1}
		for range 100 {
			list = append(list, r.Intn(most+1))
		}
		for _, n := range list {
			low, big := impl.NumPut(n, size, false), impl.NumPut(n, size, true)
			if len(low) != size || big != backward(low) {
				t.Fatalf("%d in %d: %x %x", n, size, low, big)
			}
			for place, b := range []byte(low) {
				if int(b) != n>>(8*place)&255 {
					t.Fatalf("%d in %d: %x", n, size, low)
				}
			}
			if got, ok := impl.NumGet("x"+low+"y", 1, size, false); got != n || !ok {
				t.Fatalf("%d low: %d %v", n, got, ok)
			}
			if got, ok := impl.NumGet("x"+big+"y", 1, size, true); got != n || !ok {
				t.Fatalf("%d big: %d %v", n, got, ok)
			}
		}
		text := someText(r, 50)
		for at := 0; at+size <= len(text); at++ {
			for _, high := range []bool{false, true} {
				n, ok := impl.NumGet(text, at, size, high)
				if !ok || impl.NumPut(n, size, high) != text[at:at+size] {
					t.Fatalf("%d from %d: %d %v", size, at, n, ok)
				}
			}
		}
	}
}

func TestNumPutWrong(t *testing.T) {
	for size := 1; size <= 4; size++ {
		for _, n := range append([]int{1 << (8 * size), 1 << 32, 1 << 33}, extremes...) {
			if n < 0 || n >= 1<<(8*size) {
				if low, big := impl.NumPut(n, size, false), impl.NumPut(n, size, true); low != "" || big != "" {
					t.Errorf("%d in %d: %x %x", n, size, low, big)
				}
			}
		}
	}
	for _, size := range append([]int{0, 5, 8}, extremes...) {
		if low, big := impl.NumPut(0, size, false), impl.NumPut(1, size, true); low != "" || big != "" {
			t.Errorf("size %d: %x %x", size, low, big)
		}
	}
}

func TestNumGetEdges(t *testing.T) {
	most := strings.Repeat("\x00", impl.TextMax-1) + "\x07"
	for i, c := range []struct {
		text     string
		at, size int
		low, big int
		ok       bool
	}{
		{"", 0, 1, 0, 0, false},
		{"\x05", 0, 1, 5, 5, true},
		{"\x05", 0, 2, 0, 0, false},
		{"\x05", 1, 1, 0, 0, false},
		{"\x05", -1, 1, 0, 0, false},
		{"\x05\x06", 0, 0, 0, 0, false},
		{"\xff\xff\xff\xff", 0, 4, 4294967295, 4294967295, true},
		{"\x01\x02\x03\x04\x05", 0, 4, 0x04030201, 0x01020304, true},
		{"\x01\x02\x03\x04\x05", 1, 4, 0x05040302, 0x02030405, true},
		{"\x01\x02\x03\x04\x05", 2, 4, 0, 0, false},
		{"\x01\x02\x03\x04\x05", 0, 5, 0, 0, false},
		{most, impl.TextMax - 1, 1, 7, 7, true},
		{most, impl.TextMax - 4, 4, 7 << 24, 7, true},
		{most, impl.TextMax, 1, 0, 0, false},
		{most + "\x00", 0, 1, 0, 0, false},
	} {
		if low, ok := impl.NumGet(c.text, c.at, c.size, false); low != c.low || ok != c.ok {
			t.Errorf("%d low: %d %v", i, low, ok)
		}
		if big, ok := impl.NumGet(c.text, c.at, c.size, true); big != c.big || ok != c.ok {
			t.Errorf("%d big: %d %v", i, big, ok)
		}
	}
	for _, n := range extremes {
		for _, c := range [][2]int{{n, 1}, {n, 4}, {0, n}, {1, n}, {n, n}} {
			if got, ok := impl.NumGet("abcdef", c[0], c[1], n%2 == 0); got != 0 || ok {
				t.Errorf("at %d size %d: %d %v", c[0], c[1], got, ok)
			}
		}
	}
}

func TestBitsPutLeavesItsArgument(t *testing.T) {
	for _, list := range [][]impl.Bit{nil, {{Value: 5, Size: 3}, {Value: 300, Size: 9}}, {{Value: 5, Size: 3}, {Value: 9, Size: 3}}} {
		laid, check := guarded(list, impl.Bit{Value: 1, Size: 1})
		impl.BitsPut(laid, false)
		impl.BitsPut(laid, true)
		check(t, "BitsPut")
	}
}
