package tests

import (
	"reflect"
	"slices"
	"strings"
	"testing"

	"loop.example/intarsia/impl"
)

func TestPackPutByHand(t *testing.T) {
	for _, c := range []struct {
		text string
		want string
	}{
		{"", ""},
		{"a", "\x00a"},
		{"aa", "\x01aa"},
		{"aaa", "\xfea"},
		{"aab", "\x02aab"},
		{"aabb", "\x03aabb"},
		{"aabbb", "\x01aa\xfeb"},
		{"abbb", "\x00a\xfeb"},
		{"abbbc", "\x00a\xfeb\x00c"},
		{"aaabbb", "\xfea\xfeb"},
		{"aaab", "\xfea\x00b"},
		{"\x00\x00\x00", "\xfe\x00"},
		{"\x80\x80\x80\x80", "\xfd\x80"},
		{strings.Repeat("x", 127), "\x82x"},
		{strings.Repeat("x", 128), "\x81x"},
		{strings.Repeat("x", 129), "\x81x\x00x"},
		{strings.Repeat("x", 130), "\x81x\x01xx"},
		{strings.Repeat("x", 131), "\x81x\xfex"},
		{strings.Repeat("x", 129) + "abc", "\x81x\x03xabc"},
		{strings.Repeat("x", 129) + "yyy", "\x81x\x00x\xfey"},
		{strings.Repeat("x", 256), "\x81x\x81x"},
		{strings.Repeat("ab", 64), "\x7f" + strings.Repeat("ab", 64)},
		{strings.Repeat("ab", 64) + "c", "\x7f" + strings.Repeat("ab", 64) + "\x00c"},
		{strings.Repeat("ab", 64) + "ccc", "\x7f" + strings.Repeat("ab", 64) + "\xfec"},
		{strings.Repeat("ab", 63) + "accc", "\x7e" + strings.Repeat("ab", 63) + "a" + "\xfec"},
		{strings.Repeat("ab", 63) + "acccc", "\x7e" + strings.Repeat("ab", 63) + "a" + "\xfdc"},
	} {
		if got := impl.PackPut(c.text); got != c.want {
			t.Errorf("%q: %q, not %q", c.text, got, c.want)
		}
	}
}

// packRunTexts are texts with runs of all sizes.
func packRunTexts() []string {
	r := dice(71)
	texts := packTexts()
	for _, list := range edgeRuns() {
		texts = append(texts, asText(list))
	}
	for range 200 {
		texts = append(texts, asText(runList(r, r.Intn(900), 1+r.Intn(256))))
	}
	return append(texts, asText(runList(r, impl.OutMax, 256)), asText(runList(r, impl.OutMax-1, 2)), strings.Repeat("aab", impl.OutMax/3), strings.Repeat("aaab", impl.OutMax/4))
}

func TestPromise25WhatWasPackedByPackBitsComesOut(t *testing.T) {
	for i, text := range packRunTexts() {
		packed := impl.PackPut(text)
		if want := packByWords(text); packed != want {
			t.Fatalf("text %d: %q, not %q", i, packed, want)
		}
		for _, limit := range []int{len(text), impl.OutMax} {
			if out, code := impl.PackGet(packed, limit); out != text || code != impl.GetDone {
				t.Fatalf("text %d: %d bytes %d", i, len(out), code)
			}
		}
		if len(packed) > len(text)+(len(text)+127)/128 {
			t.Fatalf("text %d: %d bytes for %d", i, len(packed), len(text))
		}
		if len(text) > 0 {
			if out, code := impl.PackGet(packed, len(text)-1); out != "" || code != impl.GetLong {
				t.Fatalf("text %d: %d with too little room", i, code)
			}
		}
	}
	for _, size := range []int{impl.OutMax + 1, impl.TextMax, 100000} {
		if got := impl.PackPut(strings.Repeat("a", size)); got != "" {
			t.Errorf("%d bytes are taken", size)
		}
	}
	if impl.PackPut(strings.Repeat("a", impl.OutMax)) == "" {
		t.Error("OutMax bytes are refused")
	}
}

func TestPackGetByHand(t *testing.T) {
	most := strings.Repeat("\x81x", 39) // 4992 bytes
	long := strings.Repeat("x", 4992)
	for _, c := range []struct {
		what  string
		text  string
		limit int
		out   string
		code  int
	}{
		{"nothing", "", 0, "", 0},
		{"nothing by 128", "\x80\x80\x80", 0, "", 0},
		{"128 between", "\xfea\x80\x01bc", 5, "aaabc", 0},
		{"128 at the end", "\x00a\x80", 5, "a", 0},
		{"one byte", "\x00a", 1, "a", 0},
		{"128 bytes", "\x7f" + strings.Repeat("ab", 64), 128, strings.Repeat("ab", 64), 0},
		{"two times", "\xffa", 2, "aa", 0},
		{"128 times", "\x81a", 128, strings.Repeat("a", 128), 0},
		{"a run that could be longer", "\xffa\xffa\xffa", 9, "aaaaaa", 0},
		{"bytes that say nothing of themselves", "\x02\x80\x81\x7f", 9, "\x80\x81\x7f", 0},
		{"no byte to follow", "\xfe", 9, "", impl.GetShort},
		{"no bytes to follow", "\x00", 9, "", impl.GetShort},
		{"one byte too few", "\x02ab", 9, "", impl.GetShort},
		{"too few behind what can be read", "\x00a\x05abcde", 9, "", impl.GetShort},
		{"one more than there is room", "\xfea", 2, "", impl.GetLong},
		{"one more, as bytes", "\x02abc", 2, "", impl.GetLong},
		{"one more by a later one", "\x01ab\x00c", 2, "", impl.GetLong},
		{"no room at all", "\x00a", 0, "", impl.GetLong},
		{"128 as the room ends", "\x01ab\x80", 2, "ab", 0},
		{"too few as the room ends", "\x01ab\x00", 2, "", impl.GetShort},
		{"too few, and no room: the packet is not there", "\x05abc", 1, "", impl.GetShort},
		{"too few, and no room at all", "\xfe", 0, "", impl.GetShort},
		{"no room ahead of too few", "\x01ab\x05abc", 1, "", impl.GetLong},
		{"OutMax", most + "\xf9x", impl.OutMax, long + "xxxxxxxx", 0},
		{"one more than OutMax", most + "\xf8x", impl.OutMax, "", impl.GetLong},
		{"one more than OutMax, as a byte", most + "\xf9x\x00x", impl.OutMax, "", impl.GetLong},
		{"TextMax", strings.Repeat("\x80", impl.TextMax-2) + "\x00a", 1, "a", 0},
		{"one more than TextMax", strings.Repeat("\x80", impl.TextMax-1) + "\x00a", 1, "", impl.GetBad},
		{"one more than TextMax, and too short", strings.Repeat("\x80", impl.TextMax) + "\x00", 1, "", impl.GetBad},
		{"limit below 0", "", -1, "", impl.GetBad},
		{"limit above OutMax", "", impl.OutMax + 1, "", impl.GetBad},
		{"limit above OutMax, and too short", "\x00", impl.OutMax + 1, "", impl.GetBad},
	} {
		if out, code := impl.PackGet(c.text, c.limit); out != c.out || code != c.code {
			t.Errorf("%s: %q %d", c.what, out, code)
		}
	}
	for _, limit := range extremes {
		if out, code := impl.PackGet("\x00a", limit); out != "" || code != impl.GetBad {
			t.Errorf("limit %d: %q %d", limit, out, code)
		}
	}
}

// somePack is bytes as PackGet may read them, with such as PackPut would not write.
func somePack(seed int64) string {
	r := dice(seed)
	out := ""
	for range r.Intn(8) {
		switch r.Intn(5) {
		case 0:
			out += "\x80"
		case 1, 2:
			n := r.Intn(1 << r.Intn(8))
			out += lowBytes(n, 1) + someText(r, n+1)
		default:
			out += lowBytes(129+r.Intn(127), 1) + someText(r, 1)
		}
	}
	return out
}

func TestPackGetOfAnyText(t *testing.T) {
	r := dice(72)
	codes := [4]int{}
	for i := range 4000 {
		text := hurt(r, somePack(int64(i)))
		limit := impl.OutMax
		if r.Intn(2) == 0 {
			limit = r.Intn(400)
		}
		want, wantCode := packGetByWords(text, limit)
		out, code := impl.PackGet(text, limit)
		if out != want || code != wantCode {
			t.Fatalf("%x, %d: %q %d, not %q %d", text, limit, out, code, want, wantCode)
		}
		codes[code]++
	}
	if codes[impl.GetDone] < 500 || codes[impl.GetShort] < 500 || codes[impl.GetLong] < 200 || codes[impl.GetBad] != 0 {
		t.Errorf("codes came so often: %v", codes)
	}
}

func TestPromise26PackedTextsOneBehindTheOther(t *testing.T) {
	r := dice(73)
	for i := range 600 {
		first, second := somePack(int64(2*i)), impl.PackPut(patchwork(r, r.Intn(200)))
		if i%2 == 1 {
			second = somePack(int64(2*i + 1))
		}
		a, codeA := impl.PackGet(first, impl.OutMax)
		b, codeB := impl.PackGet(second, impl.OutMax)
		if codeA != impl.GetDone || codeB != impl.GetDone {
			t.Fatalf("%x, %x: %d %d", first, second, codeA, codeB)
		}
		if both, code := impl.PackGet(first+second, len(a)+len(b)); both != a+b || code != impl.GetDone {
			t.Fatalf("%x, %x: %d", first, second, code)
		}
		if a+b == "" {
			continue
		}
		if both, code := impl.PackGet(first+second, len(a)+len(b)-1); both != "" || code != impl.GetLong {
			t.Fatalf("%x, %x: %d without room", first, second, code)
		}
	}
}

func TestRunPutByHand(t *testing.T) {
	hundred28 := make([]int, 128)
	for i := range hundred28 {
		hundred28[i] = i
	}
	for _, c := range []struct {
		list []int
		size int
		want string
	}{
		{nil, 1, ""},
		{[]int{7}, 1, "\x00\x07"},
		{[]int{7, 7}, 1, "\x81\x07"},
		{[]int{7, 8}, 1, "\x01\x07\x08"},
		{[]int{7, 8, 8}, 1, "\x00\x07\x81\x08"},
		{[]int{7, 7, 8}, 1, "\x81\x07\x00\x08"},
		{[]int{7, 7, 8, 8}, 1, "\x81\x07\x81\x08"},
		{[]int{1, 2, 3, 3, 4}, 1, "\x01\x01\x02\x81\x03\x00\x04"},
		{[]int{5, 5, 5, 1, 2, 2}, 2, "\x82\x05\x00\x00\x01\x00\x81\x02\x00"},
		{[]int{0x010203}, 3, "\x00\x03\x02\x01"},
		{[]int{0x01020304, 0x01020304}, 4, "\x81\x04\x03\x02\x01"},
		{[]int{0xffffffff}, 4, "\x00\xff\xff\xff\xff"},
		{same(9, 127), 1, "\xfe\x09"},
		{same(9, 128), 1, "\xff\x09"},
		{same(9, 129), 1, "\xff\x09\x00\x09"},
		{same(9, 130), 1, "\xff\x09\x81\x09"},
		{append(same(9, 129), 8), 1, "\xff\x09\x01\x09\x08"},
		{hundred28, 1, "\x7f" + asText(hundred28)},
		{append(slices.Clone(hundred28), 5), 1, "\x7f" + asText(hundred28) + "\x00\x05"},
		{append(slices.Clone(hundred28), 5, 5), 1, "\x7f" + asText(hundred28) + "\x81\x05"},
		{append(slices.Clone(hundred28), 127), 1, "\x7e" + asText(hundred28[:127]) + "\x81\x7f"},
	} {
		list, check := guarded(c.list, 99)
		if got := impl.RunPut(list, c.size); got != c.want {
			t.Errorf("%v, %d: %x, not %x", c.list, c.size, got, c.want)
		}
		check(t, "RunPut")
	}
}

func TestPromise27WhatWasPackedInPacketsComesOut(t *testing.T) {
	r := dice(271)
	var lists [][]int
	for _, list := range edgeRuns() {
		if len(list) <= 1000 {
			lists = append(lists, list)
		}
	}
	for i := range 200 {
		lists = append(lists, runList(r, r.Intn(400), 1<<(1+i%32)))
	}
	lists = append(lists, runList(r, 1000, 3), runList(r, 999, 200), runList(r, 1000, 1<<32))
	for i, list := range lists {
		for size := 1; size <= 4; size++ {
			if len(list) > 0 && slices.Max(list)>>(8*size) != 0 {
				if got := impl.RunPut(list, size); got != "" {
					t.Fatalf("list %d, size %d: %x though they do not fit", i, size, got)
				}
				continue
			}
			packed := impl.RunPut(list, size)
			if want := runByWords(list, size); packed != want {
				t.Fatalf("list %d, size %d: %x, not %x", i, size, packed, want)
			}
			for _, ahead := range []int{0, 1, 300} {
				text := someText(r, ahead) + packed + someText(r, r.Intn(3))
				got, next, ok := impl.RunGet(text, ahead, size, len(list))
				if !slices.Equal(got, list) || next != ahead+len(packed) || !ok {
					t.Fatalf("list %d, size %d, from %d on: %v %d %v", i, size, ahead, got, next, ok)
				}
			}
		}
	}
}

func TestRunPutWrong(t *testing.T) {
	for size := 1; size <= 4; size++ {
		most := 1<<(8*size) - 1
		for _, n := range append([]int{most + 1, -1, most << 8}, extremes...) {
			for _, list := range [][]int{{n}, {n, n}, {1, n}, {1, 1, n}, {n, 1, 1}} {
				fits := n >= 0 && n <= most
				if got := impl.RunPut(list, size); (got != "") != fits {
					t.Errorf("%v, size %d: %x", list, size, got)
				}
			}
		}
		if got := impl.RunPut([]int{most, 0}, size); got != "\x01"+strings.Repeat("\xff", size)+strings.Repeat("\x00", size) {
			t.Errorf("size %d: %x", size, got)
		}
		if impl.RunPut(same(most, 1000), size) == "" {
			t.Errorf("size %d: 1000 are refused", size)
		}
		for _, count := range []int{1001, 1002, 9000, 100000} {
			if impl.RunPut(same(0, count), size) != "" {
				t.Errorf("size %d: %d are taken", size, count)
			}
		}
	}
	for _, size := range append([]int{0, 5, 8}, extremes...) {
		for _, list := range [][]int{nil, {0}, {1, 1}} {
			if got := impl.RunPut(list, size); got != "" {
				t.Errorf("size %d: %x", size, got)
			}
		}
	}
}

func TestRunGetByHand(t *testing.T) {
	full := "\x00a" + strings.Repeat("x", impl.TextMax-2)
	for _, c := range []struct {
		what  string
		text  string
		at    int
		size  int
		count int
		list  []int
		next  int
		ok    bool
	}{
		{"none", "", 0, 1, 0, nil, 0, true},
		{"none, behind all", "abc", 3, 4, 0, nil, 3, true},
		{"none, ahead of something", "abc", 1, 2, 0, nil, 1, true},
		{"one", "\x00a", 0, 1, 1, []int{97}, 2, true},
		{"one, one time", "\x80a", 0, 1, 1, []int{97}, 2, true},
		{"some", "\x02abcd", 0, 1, 3, []int{97, 98, 99}, 4, true},
		{"times", "\x82ab", 0, 1, 3, []int{97, 97, 97}, 2, true},
		{"128", "\xffa", 0, 1, 128, same(97, 128), 2, true},
		{"packets", "x\x00a\x81b\x00cy", 1, 1, 4, []int{97, 98, 98, 99}, 7, true},
		{"four bytes", "\x80\xff\xfe\xfd\xfc", 0, 4, 1, []int{0xfcfdfeff}, 5, true},
		{"no packet", "", 0, 1, 1, nil, 0, false},
		{"no packet behind", "\x00a", 0, 1, 2, nil, 0, false},
		{"at the end", "\x00a", 2, 1, 1, nil, 0, false},
		{"no number", "\x00", 0, 1, 1, nil, 0, false},
		{"no number to repeat", "\x80", 0, 1, 1, nil, 0, false},
		{"half a number", "\x00a", 0, 2, 1, nil, 0, false},
		{"half a number to repeat", "\x81abc", 0, 4, 2, nil, 0, false},
		{"half a second number", "\x01abc", 0, 2, 2, nil, 0, false},
		{"more than asked for", "\x01ab", 0, 1, 1, nil, 0, false},
		{"more times than asked for", "\x81a", 0, 1, 1, nil, 0, false},
		{"more than are left", "\x00a\x02bcd", 0, 1, 3, nil, 0, false},
		{"more times than are left", "\x00a\x82b", 0, 1, 3, nil, 0, false},
		{"1000", strings.Repeat("\xffa", 7) + "\xe7a", 0, 1, 1000, same(97, 1000), 16, true},
		{"1001", strings.Repeat("\xffa", 7) + "\xe8a", 0, 1, 1001, nil, 0, false},
		{"TextMax", full, 0, 1, 1, []int{97}, 2, true},
		{"none of TextMax", full, impl.TextMax, 1, 0, nil, impl.TextMax, true},
		{"more than TextMax", full + "x", 0, 1, 1, nil, 0, false},
		{"none of more than TextMax", full + "x", 0, 1, 0, nil, 0, false},
		{"at below 0", "\x00a", -1, 1, 1, nil, 0, false},
		{"at below 0, none", "\x00a", -1, 1, 0, nil, 0, false},
		{"at past the end", "\x00a", 3, 1, 0, nil, 0, false},
		{"count below 0", "\x00a", 0, 1, -1, nil, 0, false},
		{"size 0", "\x00a", 0, 0, 1, nil, 0, false},
		{"size 0, none", "\x00a", 0, 0, 0, nil, 0, false},
		{"size 5", "\x00abcde", 0, 5, 1, nil, 0, false},
		{"size 5, none", "\x00abcde", 0, 5, 0, nil, 0, false},
	} {
		list, next, ok := impl.RunGet(c.text, c.at, c.size, c.count)
		if !slices.Equal(list, c.list) || next != c.next || ok != c.ok {
			t.Errorf("%s: %v %d %v", c.what, list, next, ok)
		}
	}
	for _, n := range extremes {
		for _, c := range [][3]int{{n, 1, 1}, {0, n, 1}, {0, 1, n}, {n, n, n}, {n, 1, 0}} {
			if list, next, ok := impl.RunGet("\x00a\x00b", c[0], c[1], c[2]); len(list) != 0 || next != 0 || ok {
				t.Errorf("%v: %v %d %v", c, list, next, ok)
			}
		}
	}
}

func TestPromise28NoPacketGoesBeyond(t *testing.T) {
	r := dice(281)
	read, more := 0, 0
	for range 10000 {
		size := 1 + r.Intn(4)
		list := runList(r, r.Intn(40), 1<<(1+r.Intn(8*size)))
		ahead := r.Intn(3)
		text := hurt(r, someText(r, ahead)+impl.RunPut(list, size)+someText(r, r.Intn(10)))
		at, count := min(ahead, len(text)), max(0, len(list)+r.Intn(5)-2)
		if r.Intn(10) == 0 {
			at, size, count = r.Intn(len(text)+3)-1, r.Intn(6), r.Intn(30)
		}
		want, wantNext, wantOk := runGetByWords(text, at, size, count)
		got, next, ok := impl.RunGet(text, at, size, count)
		if !slices.Equal(got, want) || next != wantNext || ok != wantOk {
			t.Fatalf("%x, %d, %d, %d: %v %d %v, not %v %d %v", text, at, size, count, got, next, ok, want, wantNext, wantOk)
		}
		if !ok {
			continue
		}
		read++
		if len(got) != count || next < at || next > len(text) || len(got) > 0 && (slices.Min(got) < 0 || slices.Max(got)>>(8*size) != 0) {
			t.Fatalf("%x, %d, %d, %d: %v %d", text, at, size, count, got, next)
		}
		for fewer := range count {
			if some, behind, ok := impl.RunGet(text, at, size, fewer); ok {
				more++
				if !slices.Equal(some, got[:fewer]) || behind > next {
					t.Fatalf("%x, %d, %d, %d: %v %d", text, at, size, fewer, some, behind)
				}
			}
		}
	}
	if read < 1500 || more < 1500 {
		t.Errorf("%d, and %d of fewer", read, more)
	}
}

func TestRlePutByHand(t *testing.T) {
	for _, c := range []struct {
		rows [][]int
		want string
	}{
		{nil, "\x00\x01"},
		{[][]int{nil}, "\x00\x01"},
		{[][]int{nil, nil}, "\x00\x00\x00\x01"},
		{[][]int{{5}}, "\x01\x05\x00\x01"},
		{[][]int{{5, 5}}, "\x02\x05\x00\x01"},
		{[][]int{{5, 6, 5}}, "\x01\x05\x01\x06\x01\x05\x00\x01"},
		{[][]int{{7, 7, 8}, {0, 0, 0}}, "\x02\x07\x01\x08\x00\x00\x03\x00\x00\x01"},
		{[][]int{{1}, {1}}, "\x01\x01\x00\x00\x01\x01\x00\x01"},
		{[][]int{{1}, nil, {255, 255}}, "\x01\x01\x00\x00\x00\x00\x02\xff\x00\x01"},
		{[][]int{same(3, 99)}, "\x63\x03\x00\x01"},
		{[][]int{same(3, 100)}, "\x64\x03\x00\x01"},
		{[][]int{same(3, 101)}, ""},
		{[][]int{{1}, same(3, 101)}, ""},
		{[][]int{same(3, 256)}, ""},
		{[][]int{{256}}, ""},
		{[][]int{{-1}}, ""},
		{[][]int{{1, 2}, {3, 256}}, ""},
		{make([][]int, 100), strings.Repeat("\x00\x00", 99) + "\x00\x01"},
		{make([][]int, 101), ""},
		{make([][]int, 10000), ""},
	} {
		if got := impl.RlePut(c.rows); got != c.want {
			t.Errorf("%v: %x, not %x", c.rows, got, c.want)
		}
	}
	for _, n := range extremes {
		for _, rows := range [][][]int{{{n}}, {{1, n}}, {{1}, {1, 1, n}}} {
			if got := impl.RlePut(rows); got != "" {
				t.Errorf("%v: %x", rows, got)
			}
		}
	}
}

// rleRows are rows to be packed, all as wide.
func rleRows() [][][]int {
	r := dice(74)
	all := [][][]int{nil, {nil}, {nil, nil, nil}, {{0}}, {{255}}, {same(0, 100)}, slices.Repeat([][]int{{9}}, 100), slices.Repeat([][]int{same(200, 100)}, 100)}
	for range 200 {
		all = append(all, someRows(r, r.Intn(12), r.Intn(30), false))
	}
	// As many bytes as a text may have: 44 rows of 100, no two neighbours the same, are 8888, and 45 are 9090.
	unlike := make([]int, 100)
	for i := range unlike {
		unlike[i] = i % 3
	}
	return append(all, someRows(r, 100, 20, false), slices.Repeat([][]int{unlike}, 44), append(slices.Repeat([][]int{unlike}, 44), slices.Concat(unlike[:50], same(7, 50))))
}

func TestPromise29RowsThatWerePackedComeOut(t *testing.T) {
	for i, rows := range rleRows() {
		packed := impl.RlePut(rows)
		if want := rleByWords(rows); packed != want {
			t.Fatalf("rows %d: %x, not %x", i, packed, want)
		}
		wide := 0
		if len(rows) > 0 {
			wide = len(rows[0])
		}
		got, ok := impl.RleGet(packed, wide, len(rows))
		if !ok || !slices.EqualFunc(got, rows, slices.Equal[[]int]) {
			t.Fatalf("rows %d: %v %v, not %v", i, got, ok, rows)
		}
	}
	r := dice(291)
	for range 200 {
		rows := someRows(r, r.Intn(12), 20, true)
		packed := impl.RlePut(rows)
		if want := rleByWords(rows); packed != want {
			t.Fatalf("%v: %x, not %x", rows, packed, want)
		}
		got, ok := impl.RleGet(packed, 20, len(rows))
		if !ok || len(got) != len(rows) {
			t.Fatalf("%v: %v %v", rows, got, ok)
		}
		for y, row := range rows {
			if !slices.Equal(got[y], slices.Concat(row, same(0, 20-len(row)))) {
				t.Fatalf("%v: %v", rows, got)
			}
		}
	}
}

// Rows of which the text is longer than any that is read are written all the same: the document has no other answer for them.
func TestRlePutOfMoreThanIsRead(t *testing.T) {
	row := make([]int, 100)
	for i := range row {
		row[i] = i
	}
	rows := slices.Repeat([][]int{row}, 100)
	packed := impl.RlePut(rows)
	if packed != rleByWords(rows) || len(packed) != 20200 {
		t.Errorf("%d bytes", len(packed))
	}
	if got, ok := impl.RleGet(packed, 100, 100); len(got) != 0 || ok {
		t.Errorf("%d rows %v", len(got), ok)
	}
}

func TestRleGetByHand(t *testing.T) {
	end := "\x00\x01"
	rows := func(rows ...[]int) [][]int { return rows }
	for _, c := range []struct {
		what string
		text string
		wide int
		high int
		rows [][]int
		ok   bool
	}{
		{"no rows", end, 0, 0, nil, true},
		{"no rows, but wide", end, 5, 0, nil, true},
		{"empty rows", end, 0, 2, rows(nil, nil), true},
		{"noughts", end, 2, 2, rows([]int{0, 0}, []int{0, 0}), true},
		{"a whole row", "\x03\x07" + end, 3, 1, rows([]int{7, 7, 7}), true},
		{"one more than a row", "\x04\x07" + end, 3, 1, nil, false},
		{"one more, by itself", "\x03\x07\x01\x08" + end, 3, 1, nil, false},
		{"one more than a row, though another one follows", "\x04\x07" + end, 3, 2, nil, false},
		{"a part of a row", "\x01\x07\x01\x08" + end, 3, 1, rows([]int{7, 8, 0}), true},
		{"the next row", "\x01\x07\x00\x00\x02\x08" + end, 3, 2, rows([]int{7, 0, 0}, []int{8, 8, 0}), true},
		{"the next row twice", "\x01\x07\x00\x00\x00\x00\x02\x08" + end, 2, 3, rows([]int{7, 0}, []int{0, 0}, []int{8, 8}), true},
		{"beyond the last row", "\x00\x00\x01\x07" + end, 3, 1, nil, false},
		{"to beyond the last row, nothing put", "\x01\x07\x00\x00\x00\x00" + end, 1, 1, rows([]int{7}), true},
		{"to the right and on", "\x01\x07\x00\x02\x01\x01\x01\x08" + end, 3, 2, rows([]int{7, 0, 0}, []int{0, 0, 8}), true},
		{"to the right", "\x00\x02\x02\x00\x01\x08" + end, 3, 1, rows([]int{0, 0, 8}), true},
		{"on", "\x00\x02\x00\x01\x01\x08" + end, 1, 2, rows([]int{0}, []int{8}), true},
		{"too far to the right", "\x00\x02\x03\x00\x01\x08" + end, 3, 1, nil, false},
		{"too far to the right, nothing put", "\x00\x02\x03\x00" + end, 3, 1, rows([]int{0, 0, 0}), true},
		{"as far as can be told, nothing put", "\x00\x02\xff\xff\x00\x02\xff\xff" + end, 1, 1, rows([]int{0}), true},
		{"too far on", "\x00\x02\x00\x01\x01\x08" + end, 3, 1, nil, false},
		{"too far to the right, then the next row", "\x00\x02\x09\x00\x00\x00\x01\x08" + end, 1, 2, rows([]int{0}, []int{8}), true},
		{"three bytes and one more", "\x00\x03\x01\x02\x03\x09" + end, 3, 1, rows([]int{1, 2, 3}), true},
		{"three bytes and none more", "\x00\x03\x01\x02\x03" + end, 3, 1, nil, false},
		{"three bytes at the end", "\x00\x03\x01\x02\x03", 3, 1, nil, false},
		{"four bytes", "\x00\x04\x01\x02\x03\x04" + end, 4, 1, rows([]int{1, 2, 3, 4}), true},
		{"four bytes, one more than a row", "\x00\x04\x01\x02\x03\x04" + end, 3, 1, nil, false},
		{"four bytes that look like others", "\x00\x04\x00\x01\x00\x00" + end, 4, 1, rows([]int{0, 1, 0, 0}), true},
		{"bytes behind bytes", "\x01\x09\x00\x03\x01\x02\x03\x00\x01\x08" + end, 5, 1, rows([]int{9, 1, 2, 3, 8}), true},
		{"255 is too many", "\xff\x07" + end, 100, 1, nil, false},
		{"100 are not", "\x64\x07" + end, 100, 1, rows(same(7, 100)), true},
		{"101 are", "\x65\x07" + end, 100, 1, nil, false},
		{"255 bytes are too many", "\x00\xff" + strings.Repeat("a", 256) + end, 100, 1, nil, false},
		{"a place twice is not to be had", "\x01\x07\x00\x02\xff\x00\x01\x08" + end, 100, 1, nil, false},
		{"something behind", end + "x", 1, 1, nil, false},
		{"another end behind", end + end, 1, 1, nil, false},
		{"no end", "\x01\x07", 1, 1, nil, false},
		{"nothing", "", 0, 0, nil, false},
		{"half an end", "\x00", 1, 1, nil, false},
		{"half a run", "\x01", 1, 1, nil, false},
		{"no way to go", "\x00\x02", 1, 1, nil, false},
		{"half a way to go", "\x00\x02\x00", 1, 1, nil, false},
		{"too few bytes", "\x00\x03\x01\x02", 3, 1, nil, false},
		{"a run in no row", "\x01\x07" + end, 1, 0, nil, false},
		{"a run in an empty row", "\x01\x07" + end, 0, 1, nil, false},
		{"101 wide", end, 101, 1, nil, false},
		{"101 high", end, 1, 101, nil, false},
		{"below 0 wide", end, -1, 1, nil, false},
		{"below 0 high", end, 1, -1, nil, false},
		{"TextMax", strings.Repeat("\x00\x00", impl.TextMax/2-1) + end, 1, 1, rows([]int{0}), true},
		{"one more than TextMax", strings.Repeat("\x00\x00", impl.TextMax/2-3) + "\x00\x02\x00\x00\x01" + end, 1, 1, nil, false},
		{"two more than TextMax", strings.Repeat("\x00\x00", impl.TextMax/2) + end, 1, 1, nil, false},
	} {
		got, ok := impl.RleGet(c.text, c.wide, c.high)
		if !slices.EqualFunc(got, c.rows, slices.Equal[[]int]) || ok != c.ok {
			t.Errorf("%s: %v %v", c.what, got, ok)
		}
	}
	for _, high := range []int{0, 1, 100} {
		if got, ok := impl.RleGet(end, 100, high); len(got) != high || !ok {
			t.Errorf("%d rows of %d, %v", len(got), high, ok)
		}
	}
	for _, n := range extremes {
		for _, c := range [][2]int{{n, 1}, {1, n}, {n, n}, {0, n}, {n, 0}} {
			if got, ok := impl.RleGet(end, c[0], c[1]); len(got) != 0 || ok {
				t.Errorf("%v: %v %v", c, got, ok)
			}
		}
	}
}

func TestPromise30RowsAreAsAskedFor(t *testing.T) {
	r := dice(301)
	read := 0
	for i := range 20000 {
		wide, high := r.Intn(1<<r.Intn(6)), r.Intn(1<<r.Intn(6))
		text := someRle(r, wide, high)
		if i%3 == 0 {
			text = hurt(r, text)
		}
		want, wantOk := rleGetByWords(text, wide, high)
		got, ok := impl.RleGet(text, wide, high)
		if ok != wantOk || ok && !slices.EqualFunc(got, want, slices.Equal[[]int]) || !ok && len(got) != 0 {
			t.Fatalf("%x, %d, %d: %v %v, not %v %v", text, wide, high, got, ok, want, wantOk)
		}
		if !ok {
			continue
		}
		read++
		if len(got) != high {
			t.Fatalf("%x: %d rows, not %d", text, len(got), high)
		}
		more, ok := impl.RleGet(text, wide+1, high+1)
		if !ok || len(more) != high+1 || !slices.Equal(more[high], same(0, wide+1)) {
			t.Fatalf("%x, %d, %d: %v %v with one more", text, wide, high, more, ok)
		}
		for y, row := range got {
			if len(row) != wide || !slices.Equal(more[y], append(slices.Clone(row), 0)) {
				t.Fatalf("%x, %d, %d: %v, and %v with one more", text, wide, high, got, more)
			}
		}
	}
	if read < 800 {
		t.Errorf("only %d could be read", read)
	}
}

func TestRunsLeaveTheirArguments(t *testing.T) {
	r := dice(75)
	for range 50 {
		list, check := guarded(runList(r, r.Intn(300), 200), 77)
		impl.RunPut(list, 1+r.Intn(4))
		check(t, "RunPut")
		rows := someRows(r, r.Intn(6), 20, true)
		var checks []func(t *testing.T, what string)
		for y := range rows {
			laid, check := guarded(rows[y], 88)
			rows[y] = laid
			checks = append(checks, check)
		}
		memory := append(slices.Clone(rows), []int{1}, []int{2})
		before := slices.Clone(memory)
		impl.RlePut(memory[:len(rows)])
		for _, check := range checks {
			check(t, "RlePut")
		}
		if !reflect.DeepEqual(memory, before) {
			t.Error("RlePut wrote into its rows")
		}
	}
}

func TestRunsAnswerNewMemory(t *testing.T) {
	text := impl.RunPut([]int{5, 5, 5, 1, 2, 2}, 2)
	for range 2 {
		list, _, _ := impl.RunGet(text, 0, 2, 6)
		if !slices.Equal(list, []int{5, 5, 5, 1, 2, 2}) {
			t.Errorf("%v", list)
		}
		spoil(list, 9)
	}
	rle := impl.RlePut([][]int{{1, 1}, {2, 3}, {1, 1}})
	for range 2 {
		rows, _ := impl.RleGet(rle, 2, 3)
		for y, want := range [][]int{{1, 1}, {2, 3}, {1, 1}} {
			if !slices.Equal(rows[y], want) {
				t.Errorf("row %d: %v", y, rows)
			}
			// Nothing of one row, its spare room included, is another one's.
			spoil(rows[y], 50+y)
		}
		spoil(rows, nil)
	}
}
