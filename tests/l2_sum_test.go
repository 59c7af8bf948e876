package tests

import (
	"hash/adler32"
	"hash/crc32"
	"strings"
	"testing"

	"loop.example/intarsia/impl"
)

// crcByWords and adlerByWords do what the document says, step by step.
func crcByWords(sum int, text string) int {
	sum ^= 4294967295
	for i := range len(text) {
		sum ^= int(text[i])
		for range 8 {
			if sum%2 == 1 {
				sum = sum/2 ^ 3988292384
			} else {
				sum /= 2
			}
		}
	}
	return sum ^ 4294967295
}

func adlerByWords(sum int, text string) int {
	b, a := sum/65536, sum%65536
	for i := range len(text) {
		a = (a + int(text[i])) % 65521
		b = (b + a) % 65521
	}
	return 65536*b + a
}

// sumTexts are texts of many sizes, the greatest among them.
func sumTexts() []string {
	r := dice(4)
	texts := []string{"", "\x00", "\xff", "\x00\x00\x00\x00", "123456789", "Wikipedia", strings.Repeat("\xff", impl.TextMax), strings.Repeat("\x00", impl.TextMax), someText(r, impl.TextMax)}
	for range 60 {
		texts = append(texts, someText(r, r.Intn(400)))
	}
	return texts
}

func TestSumsOfTexts(t *testing.T) {
	for _, text := range sumTexts() {
		if got := impl.Crc32(text); got != int(crc32.ChecksumIEEE([]byte(text))) || got != crcByWords(0, text) {
			t.Errorf("crc of %d bytes: %d", len(text), got)
		}
		if got := impl.Adler32(text); got != int(adler32.Checksum([]byte(text))) || got != adlerByWords(1, text) {
			t.Errorf("adler of %d bytes: %d", len(text), got)
		}
	}
}

func TestPromise4CrcGoesOn(t *testing.T) {
	if got := impl.Crc32("123456789"); got != 3421780262 {
		t.Error(got)
	}
	for _, text := range sumTexts() {
		whole := impl.Crc32(text)
		for cut := 0; cut <= len(text); cut += 1 + len(text)/13 {
			if got := impl.CrcMore(impl.Crc32(text[:cut]), text[cut:]); got != whole {
				t.Fatalf("%d of %d bytes: %d, not %d", cut, len(text), got, whole)
			}
		}
		if impl.CrcMore(whole, "") != whole || impl.CrcMore(0, text) != whole {
			t.Error("nothing more")
		}
	}
}

func TestCrcMoreEdges(t *testing.T) {
	for _, sum := range []int{0, 1, 2, 65535, 1 << 31, 1<<31 - 1, 4294967294, 4294967295} {
		if got := impl.CrcMore(sum, ""); got != sum {
			t.Errorf("%d and nothing: %d", sum, got)
		}
		if got := impl.CrcMore(sum, "abc"); got != crcByWords(sum, "abc") {
			t.Errorf("%d: %d", sum, got)
		}
	}
	for _, sum := range append([]int{4294967296, 4294967297, 1 << 33, -4294967295}, extremes...) {
		if sum >= 0 && sum <= 4294967295 {
			continue
		}
		if impl.CrcMore(sum, "abc") != 0 || impl.CrcMore(sum, "") != 0 {
			t.Errorf("%d is taken", sum)
		}
	}
	long := someText(dice(5), impl.TextMax+1)
	if impl.Crc32(long) != 0 || impl.CrcMore(7, long) != 0 || impl.Crc32(strings.Repeat(long, 3)) != 0 {
		t.Error("more than TextMax bytes are taken")
	}
	if impl.CrcMore(7, long[1:]) != crcByWords(7, long[1:]) {
		t.Error("TextMax bytes are refused")
	}
}

func TestPromise5AdlerGoesOn(t *testing.T) {
	if got := impl.Adler32("Wikipedia"); got != 300286872 {
		t.Error(got)
	}
	for _, text := range sumTexts() {
		whole := impl.Adler32(text)
		for cut := 0; cut <= len(text); cut += 1 + len(text)/13 {
			if got := impl.AdlerMore(impl.Adler32(text[:cut]), text[cut:]); got != whole {
				t.Fatalf("%d of %d bytes: %d, not %d", cut, len(text), got, whole)
			}
		}
		if impl.AdlerMore(whole, "") != whole || impl.AdlerMore(1, text) != whole {
			t.Error("nothing more")
		}
	}
}

func TestAdlerMoreEdges(t *testing.T) {
	for _, sum := range []int{0, 1, 65520, 65520 << 16, 65520<<16 + 65520, 65519<<16 + 65520, 1<<31 - 1 - 65535, 1 << 31} {
		if got := impl.AdlerMore(sum, ""); got != sum {
			t.Errorf("%d and nothing: %d", sum, got)
		}
		for _, text := range []string{"\x00", "\x01", "abc", strings.Repeat("\xff", impl.TextMax)} {
			if got := impl.AdlerMore(sum, text); got != adlerByWords(sum, text) {
				t.Errorf("%d and %d bytes: %d", sum, len(text), got)
			}
		}
	}
	wrong := []int{65521, 65535, 65521 << 16, 65535 << 16, 65521<<16 + 1, 1<<16 + 65521, 4294967295, 4294967296, 4294967297, 1<<48 + 1, -65535, -4294967295}
	for _, sum := range append(wrong, extremes...) {
		if impl.AdlerMore(sum, "abc") != 0 || impl.AdlerMore(sum, "") != 0 {
			t.Errorf("%d is taken", sum)
		}
	}
	long := someText(dice(6), impl.TextMax+1)
	if impl.Adler32(long) != 0 || impl.AdlerMore(7, long) != 0 || impl.Adler32(strings.Repeat(long, 3)) != 0 {
		t.Error("more than TextMax bytes are taken")
	}
	if impl.AdlerMore(7, long[1:]) != adlerByWords(7, long[1:]) {
		t.Error("TextMax bytes are refused")
	}
}

func TestPromise6OneBitTurned(t *testing.T) {
	for _, text := range sumTexts() {
		crc, adler := impl.Crc32(text), impl.Adler32(text)
		for bit := 0; bit < 8*len(text); bit += 1 + len(text)/6 {
			other := turnBit(text, bit)
			if impl.Crc32(other) == crc || impl.Adler32(other) == adler {
				t.Fatalf("bit %d of %d bytes: the same", bit, len(text))
			}
		}
	}
}
