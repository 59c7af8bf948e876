package tests

import (
	"math/rand"
	"slices"
	"strings"
	"testing"

	"loop.example/intarsia/impl"
)

// lengthsByWords makes a tree's lengths from a plain list of nodes, as the document words it.
func lengthsByWords(often []int) []int {
	type node struct {
		often   int
		symbols []int
	}
	var nodes []node
	lengths := make([]int, len(often))
	for symbol, n := range often {
		if n != 0 {
			nodes = append(nodes, node{n, []int{symbol}})
		}
	}
	if len(nodes) == 1 {
		lengths[nodes[0].symbols[0]] = 1
	}
	takeLeast := func() node {
		least := 0
		for i := range nodes {
			if nodes[i].often < nodes[least].often {
				least = i
			}
		}
		taken := nodes[least]
		nodes = slices.Delete(nodes, least, least+1)
		return taken
	}
	for len(nodes) >= 2 {
		first := takeLeast()
		second := takeLeast()
		both := node{first.often + second.often, slices.Concat(first.symbols, second.symbols)}
		for _, symbol := range both.symbols {
			lengths[symbol]++
		}
		nodes = append(nodes, both)
	}
	return lengths
}

// fitByWords also tells how often the numbers were halved.
func fitByWords(often []int, most int) ([]int, int) {
	often = slices.Clone(often)
	halved := 0
	lengths := lengthsByWords(often)
	for len(lengths) > 0 && slices.Max(lengths) > most {
		for i := range often {
			often[i] = (often[i] + 1) / 2
		}
		halved++
		lengths = lengthsByWords(often)
	}
	return lengths, halved
}

// someOften is numbers of how often each comes: some few or many, some even or very uneven.
func someOften(r *rand.Rand) []int {
	often := make([]int, r.Intn(60))
	if r.Intn(6) == 0 {
		often = make([]int, impl.CodeSyms-r.Intn(3))
	}
	most := []int{1, 2, 5, 40, impl.TextMax}[r.Intn(5)]
	for i := range often {
		switch r.Intn(4) {
		case 0:
		case 1:
			often[i] = 1 + r.Intn(most)
		default:
			often[i] = 1 + r.Intn(most)>>r.Intn(13)
		}
	}
	return often
}

func comeOf(often []int) int {
	come := 0
	for _, n := range often {
		if n != 0 {
			come++
		}
	}
	return come
}

// fibonacci grows as slowly as makes a tree of one long branch.
func fibonacci(count int) []int {
	often := make([]int, count)
	for i := range often {
		if i < 2 {
			often[i] = 1
		} else {
			often[i] = often[i-1] + often[i-2]
		}
	}
	return often
}

// someCodes are codes that are ok, full ones and such as leave something over.
func someCodes() [][]int {
	r := dice(7)
	codes := [][]int{
		nil, {0}, {0, 0, 0}, {1}, {15}, {0, 1}, {0, 0, 15}, {1, 1}, {2, 1, 2}, {2, 2, 2}, {2, 1, 3, 3}, {3, 3, 3, 3, 1}, {1, 0, 2, 0, 3, 0},
		{1, 2, 3, 4, 5, 6, 7, 8, 9, 10, 11, 12, 13, 14, 15}, {1, 2, 3, 4, 5, 6, 7, 8, 9, 10, 11, 12, 13, 14, 15, 15}, {15, 15, 14, 13, 12, 11, 10, 9, 8, 7, 6, 5, 4, 3, 2, 1},
		same(8, 256), same(15, impl.CodeSyms), same(9, impl.CodeSyms), same(0, impl.CodeSyms), slices.Concat(same(8, 144), same(9, 112), same(7, 24), same(8, 8)),
	}
	for range 60 {
		lengths, _ := fitByWords(someOften(r), impl.CodeMax)
		codes = append(codes, lengths)
		if len(lengths) > 0 {
			over := slices.Clone(lengths)
			over[r.Intn(len(over))] = 0
			codes = append(codes, over)
		}
	}
	return codes
}

// wrongCodes are lengths of no code.
func wrongCodes() [][]int {
	codes := [][]int{
		{1, 1, 1}, {1, 1, 15}, {2, 2, 2, 2, 2}, {-1}, {1, -1}, {16}, {0, 16}, {1, 2, 16},
		same(8, 257), append(same(8, 256), 15), same(1, impl.CodeSyms), same(0, impl.CodeSyms+1), append(same(15, impl.CodeSyms), 0), same(15, impl.CodeSyms+1), same(0, 100000),
		{1, 2, 3, 4, 5, 6, 7, 8, 9, 10, 11, 12, 13, 14, 15, 15, 15},
	}
	for _, n := range extremes {
		codes = append(codes, []int{n}, []int{1, n}, []int{n, 1, 1}, []int{n, n})
	}
	return codes
}

func TestCodeOkAndFull(t *testing.T) {
	for i, c := range []struct {
		lengths  []int
		ok, full bool
	}{
		{nil, true, false},
		{[]int{}, true, false},
		{[]int{0}, true, false},
		{[]int{1}, true, false},
		{[]int{15}, true, false},
		{[]int{1, 1}, true, true},
		{[]int{1, 0, 1}, true, true},
		{[]int{1, 2}, true, false},
		{[]int{1, 2, 2}, true, true},
		{[]int{1, 2, 3, 4, 5, 6, 7, 8, 9, 10, 11, 12, 13, 14, 15}, true, false},
		{[]int{1, 2, 3, 4, 5, 6, 7, 8, 9, 10, 11, 12, 13, 14, 15, 15}, true, true},
		{same(8, 256), true, true},
		{same(8, 255), true, false},
		{same(15, impl.CodeSyms), true, false},
		{same(0, impl.CodeSyms), true, false},
		{append(same(8, 256), same(0, impl.CodeSyms-256)...), true, true},
		{append(same(8, 256), same(0, impl.CodeSyms-255)...), false, false},
	} {
		if ok, full := impl.CodeOk(c.lengths), impl.CodeFull(c.lengths); ok != c.ok || full != c.full {
			t.Errorf("%d: %v %v", i, ok, full)
		}
	}
	for _, lengths := range someCodes() {
		if !impl.CodeOk(lengths) {
			t.Errorf("%v is refused", lengths)
		}
	}
	for _, lengths := range wrongCodes() {
		if impl.CodeOk(lengths) || impl.CodeFull(lengths) {
			t.Errorf("%d lengths are taken", len(lengths))
		}
	}
}

func TestCodeMakeByHand(t *testing.T) {
	for i, c := range []struct{ lengths, want []int }{
		{nil, nil},
		{[]int{0, 0}, []int{0, 0}},
		{[]int{0, 1}, []int{0, 0}},
		{[]int{15}, []int{0}},
		{[]int{1, 1}, []int{0, 1}},
		{[]int{3, 3, 3, 3, 3, 2, 4, 4}, []int{2, 3, 4, 5, 6, 0, 14, 15}},
		{[]int{2, 0, 2}, []int{0, 0, 1}},
		{[]int{3, 1, 0, 3}, []int{4, 0, 0, 5}},
		{[]int{15, 1, 15}, []int{1 << 14, 0, 1<<14 + 1}},
	} {
		if got := impl.CodeMake(c.lengths); !slices.Equal(got, c.want) {
			t.Errorf("%d: %v", i, got)
		}
	}
	for _, lengths := range wrongCodes() {
		if got := impl.CodeMake(lengths); len(got) != 0 {
			t.Errorf("%d lengths: %v", len(lengths), got)
		}
	}
}

func TestPromise7NoNumberBeginsAnother(t *testing.T) {
	for _, lengths := range someCodes() {
		numbers := impl.CodeMake(lengths)
		if len(numbers) != len(lengths) {
			t.Fatalf("%d numbers for %d lengths", len(numbers), len(lengths))
		}
		for a, short := range lengths {
			if numbers[a] < 0 || numbers[a] >= 1<<short {
				t.Fatalf("%v: %d has %d", lengths, a, numbers[a])
			}
			for b, long := range lengths {
				if a != b && short > 0 && long >= short && numbers[b]>>(long-short) == numbers[a] {
					t.Fatalf("%v: %d begins %d", lengths, a, b)
				}
			}
		}
	}
}

func TestPromise8AFullCodeHasASymbolForAll(t *testing.T) {
	for i, lengths := range someCodes() {
		step := 1
		if len(lengths) > 16 || i > 30 {
			step = 251
		}
		for two := 0; two < 65536 && impl.CodeFull(lengths); two += step {
			text := string([]byte{byte(two), byte(two >> 8)})
			symbol, behind := impl.CodeGet(text, 0, lengths)
			if symbol < 0 || symbol >= len(lengths) || behind != lengths[symbol] || behind == 0 {
				t.Fatalf("%v: %x is %d up to %d", lengths, text, symbol, behind)
			}
		}
		if len(lengths) < impl.CodeSyms {
			further := append(slices.Clone(lengths), impl.CodeMax)
			if impl.CodeFull(lengths) == impl.CodeOk(further) {
				t.Fatalf("%v: full is %v, and so is room for more", lengths, impl.CodeFull(lengths))
			}
		}
	}
}

func TestCodeFitByHand(t *testing.T) {
	for i, c := range []struct {
		often []int
		most  int
		want  []int
	}{
		{nil, 1, nil},
		{nil, 15, nil},
		{[]int{0}, 1, []int{0}},
		{[]int{0, 0, 0}, 15, []int{0, 0, 0}},
		{[]int{1}, 1, []int{1}},
		{[]int{0, impl.TextMax, 0}, 15, []int{0, 1, 0}},
		{[]int{1, 1}, 1, []int{1, 1}},
		{[]int{impl.TextMax, 0, 1}, 1, []int{1, 0, 1}},
		{[]int{1, 1, 1}, 15, []int{2, 2, 1}},
		{[]int{1, 1, 2}, 15, []int{2, 2, 1}},
		{[]int{2, 1, 1}, 15, []int{1, 2, 2}},
		{[]int{1, 1, 2, 2}, 15, []int{2, 2, 2, 2}},
		{[]int{2, 2, 1, 1}, 15, []int{2, 2, 2, 2}},
		{[]int{1, 1, 1, 1, 1}, 15, []int{3, 3, 2, 2, 2}},
		{[]int{1, 1, 2, 3, 5}, 15, []int{4, 4, 3, 2, 1}},
		{[]int{1, 1, 2, 3, 5}, 4, []int{4, 4, 3, 2, 1}},
		{[]int{1, 1, 2, 3, 5}, 3, []int{3, 3, 2, 2, 2}},
		{[]int{4, 1, 1, 1}, 2, []int{2, 2, 2, 2}},
		{fibonacci(16), 15, []int{15, 15, 14, 13, 12, 11, 10, 9, 8, 7, 6, 5, 4, 3, 2, 1}},
		{same(1, 256), 8, same(8, 256)},
		{same(1, 2), 1, same(1, 2)},
	} {
		if got := impl.CodeFit(c.often, c.most); !slices.Equal(got, c.want) {
			t.Errorf("%d: %v, not %v", i, got, c.want)
		}
	}
}

// checkFit holds what was fitted against the document's words and the promise.
func checkFit(t *testing.T, often []int, most int) {
	t.Helper()
	lengths := impl.CodeFit(often, most)
	want, halved := fitByWords(often, most)
	if !slices.Equal(lengths, want) {
		t.Fatalf("%v, %d: %v, not %v", often, most, lengths, want)
	}
	if !impl.CodeOk(lengths) || comeOf(often) >= 2 && !impl.CodeFull(lengths) {
		t.Fatalf("%v, %d: %v is not a full code", often, most, lengths)
	}
	for i, n := range often {
		if lengths[i] > most || (lengths[i] == 0) != (n == 0) {
			t.Fatalf("%v, %d: %v", often, most, lengths)
		}
		for j, m := range often {
			if halved == 0 && n != 0 && n < m && lengths[i] < lengths[j] {
				t.Fatalf("%v: %d comes less often than %d: %v", often, i, j, lengths)
			}
		}
	}
}

func TestPromise9FittedLengths(t *testing.T) {
	r := dice(8)
	for range 400 {
		often := someOften(r)
		checkFit(t, often, impl.CodeMax)
		least := 1
		for comeOf(often) > 1<<least {
			least++
		}
		checkFit(t, often, least)
		checkFit(t, often, least+r.Intn(impl.CodeMax-least+1))
	}
	for count := 2; count <= 19; count++ {
		often := fibonacci(count)
		backwards := slices.Clone(often)
		slices.Reverse(backwards)
		for most := 1; most <= impl.CodeMax; most++ {
			if count <= 1<<most {
				checkFit(t, often, most)
				checkFit(t, backwards, most)
			}
		}
	}
	for count := 1; count <= impl.CodeSyms; count++ {
		checkFit(t, same(1, count), impl.CodeMax)
	}
	checkFit(t, same(impl.TextMax, impl.CodeSyms), 9)
	checkFit(t, append(same(0, impl.CodeSyms-1), 1), 1)
}

func TestCodeFitWrong(t *testing.T) {
	check := func(often []int, most int) {
		t.Helper()
		if got := impl.CodeFit(often, most); len(got) != 0 {
			t.Errorf("%d numbers, %d: %v", len(often), most, got)
		}
	}
	for _, most := range append([]int{0, 16}, extremes...) {
		check([]int{1}, most)
		check([]int{0, 0}, most)
		check([]int{1, 2, 3}, most)
	}
	for _, n := range append([]int{impl.TextMax + 1}, extremes...) {
		check([]int{n}, 15)
		check([]int{1, 2, n}, 15)
		check([]int{n, 0}, 1)
	}
	for most := 1; most <= 8; most++ {
		check(same(1, 1<<most+1), most)
		check(append([]int{0, 0}, same(9, 1<<most+1)...), most)
		if got := impl.CodeFit(append([]int{0, 0}, same(9, 1<<most)...), most); !slices.Equal(got, append([]int{0, 0}, same(most, 1<<most)...)) {
			t.Errorf("2 to the power of %d: %v", most, got)
		}
	}
	check(same(1, impl.CodeSyms), 8)
	check(same(1, impl.CodeSyms+1), 15)
	check(same(0, impl.CodeSyms+1), 15)
	check(append(same(0, 100000), 1), 15)
}

// cheapest is the least cost of all codes with no length above most that have all symbols that come.
func cheapest(often []int, most int) int {
	best := -1
	lengths := make([]int, len(often))
	var try func(i int, room int)
	try = func(i int, room int) {
		if i == len(often) {
			cost := impl.CodeCost(often, lengths)
			if best < 0 || cost < best {
				best = cost
			}
			return
		}
		if often[i] == 0 {
			try(i+1, room)
			return
		}
		for length := 1; length <= most; length++ {
			if 1<<(most-length) <= room {
				lengths[i] = length
				try(i+1, room-1<<(most-length))
			}
		}
		lengths[i] = 0
	}
	try(0, 1<<most)
	return best
}

func TestPromise10NoCodeIsCheaper(t *testing.T) {
	r := dice(9)
	for range 150 {
		often := make([]int, 1+r.Intn(6))
		for i := range often {
			often[i] = r.Intn([]int{2, 5, 30, impl.TextMax + 1}[r.Intn(4)])
		}
		got, want := impl.CodeCost(often, impl.CodeFit(often, impl.CodeMax)), cheapest(often, 5)
		if got != want {
			t.Fatalf("%v: %d bits, not %d", often, got, want)
		}
	}
	// Of many symbols not all codes can be tried: whatever else is a code must not be cheaper.
	for range 300 {
		often := someOften(r)
		fitted := impl.CodeFit(often, impl.CodeMax)
		if len(fitted) == 0 || slices.Max(fitted) >= impl.CodeMax-2 {
			continue
		}
		cost := impl.CodeCost(often, fitted)
		for range 10 {
			other := slices.Clone(often)
			for i := range other {
				if other[i] != 0 {
					other[i] = min(impl.TextMax, other[i]+r.Intn(1+other[i]))
				}
			}
			if near := impl.CodeFit(other, impl.CodeMax); impl.CodeCost(often, near) < cost {
				t.Fatalf("%v: %v is cheaper than %v", often, near, fitted)
			}
		}
	}
}

func TestCodeCost(t *testing.T) {
	for i, c := range []struct {
		often, lengths []int
		want           int
	}{
		{nil, nil, 0},
		{[]int{7}, []int{0}, 0},
		{[]int{0}, []int{3}, 0},
		{[]int{7}, []int{3}, 21},
		{[]int{5, 9, 12, 13, 16, 45}, []int{4, 4, 3, 3, 3, 1}, 224},
		{[]int{impl.TextMax, 1}, []int{15, 1}, 15*impl.TextMax + 1},
		{same(impl.TextMax, impl.CodeSyms), same(15, impl.CodeSyms), 15 * impl.TextMax * impl.CodeSyms},
		{[]int{impl.TextMax + 1, 1}, []int{1, 1}, 0},
		{[]int{1, -1}, []int{1, 1}, 0},
		{[]int{1, -1}, []int{1, 0}, 0},
		{[]int{1, 2, 3}, []int{1, 1}, 0},
		{[]int{1}, []int{1, 1}, 0},
		{nil, []int{1, 1}, 0},
		{[]int{1, 2}, nil, 0},
		{same(1, impl.CodeSyms+1), same(15, impl.CodeSyms+1), 0},
	} {
		if got := impl.CodeCost(c.often, c.lengths); got != c.want {
			t.Errorf("%d: %d", i, got)
		}
	}
	for _, lengths := range wrongCodes() {
		if got := impl.CodeCost(same(1, len(lengths)), lengths); got != 0 {
			t.Errorf("%d lengths: %d", len(lengths), got)
		}
	}
	for _, n := range extremes {
		if impl.CodeCost([]int{n}, []int{1}) != 0 || impl.CodeCost([]int{3, n}, []int{1, 0}) != 0 {
			t.Errorf("%d is taken", n)
		}
	}
}

// symbolsOf are the symbols that a code has.
func symbolsOf(lengths []int) []int {
	var have []int
	for symbol, length := range lengths {
		if length != 0 {
			have = append(have, symbol)
		}
	}
	return have
}

func TestPromise11SymbolsAreThere(t *testing.T) {
	r := dice(10)
	for _, lengths := range someCodes() {
		have := symbolsOf(lengths)
		if len(have) == 0 {
			continue
		}
		list := slices.Clone(have)
		for range 100 {
			list = append(list, have[r.Intn(len(have))])
		}
		bits := impl.CodePut(list, lengths)
		if len(bits) != len(list) {
			t.Fatalf("%v: %d for %d symbols", lengths, len(bits), len(list))
		}
		ahead := r.Intn(20)
		text := impl.BitsPut(append([]impl.Bit{{Value: 1<<ahead - 1, Size: ahead}}, bits...), false)
		at := ahead
		for i, want := range list {
			symbol, behind := impl.CodeGet(text, at, lengths)
			if symbol != want || behind != at+lengths[want] {
				t.Fatalf("%v: symbol %d is %d up to %d, not %d", lengths, i, symbol, behind, want)
			}
			at = behind
		}
	}
}

func TestCodePutByHand(t *testing.T) {
	for i, c := range []struct {
		list, lengths []int
		want          []impl.Bit
	}{
		{nil, nil, nil},
		{nil, []int{1, 1}, nil},
		{[]int{0, 1, 1}, []int{1, 1}, []impl.Bit{{Value: 0, Size: 1}, {Value: 1, Size: 1}, {Value: 1, Size: 1}}},
		{[]int{0}, []int{15}, []impl.Bit{{Value: 0, Size: 15}}},
		{[]int{2, 0, 1}, []int{3, 1, 3, 0}, []impl.Bit{{Value: 5, Size: 3}, {Value: 1, Size: 3}, {Value: 0, Size: 1}}},
		{[]int{0, 1}, []int{15, 15, 1}, []impl.Bit{{Value: 1, Size: 15}, {Value: 1<<14 + 1, Size: 15}}},
		{[]int{3}, []int{3, 1, 3, 0}, nil},
		{[]int{0, 3}, []int{3, 1, 3, 0}, nil},
		{[]int{0, 4}, []int{3, 1, 3, 0}, nil},
		{[]int{-1}, []int{3, 1, 3, 0}, nil},
		{[]int{0}, nil, nil},
		{[]int{0}, []int{0}, nil},
	} {
		if got := impl.CodePut(c.list, c.lengths); !slices.Equal(got, c.want) {
			t.Errorf("%d: %v", i, got)
		}
	}
}

func TestCodePutEdges(t *testing.T) {
	one := []int{1}
	if got := impl.CodePut(same(0, impl.TextMax), one); !slices.Equal(got, slices.Repeat([]impl.Bit{{Size: 1}}, impl.TextMax)) {
		t.Errorf("TextMax symbols: %d", len(got))
	}
	if got := impl.CodePut(same(0, impl.TextMax+1), one); len(got) != 0 {
		t.Errorf("one more: %d", len(got))
	}
	if got := impl.CodePut([]int{impl.CodeSyms - 1}, same(15, impl.CodeSyms)); len(got) != 1 {
		t.Errorf("the last of CodeSyms: %v", got)
	}
	for _, lengths := range wrongCodes() {
		if got := impl.CodePut([]int{0}, lengths); len(got) != 0 {
			t.Errorf("%d lengths: %v", len(lengths), got)
		}
	}
	for _, symbol := range extremes {
		if got := impl.CodePut([]int{0, symbol}, one); len(got) != 0 {
			t.Errorf("%d: %v", symbol, got)
		}
	}
}

// getByWords looks bit by bit for the number of a symbol of that length.
func getByWords(text string, at int, lengths []int) (int, int) {
	numbers := impl.CodeMake(lengths)
	n := 0
	for size := 1; size <= impl.CodeMax; size++ {
		bit, ok := impl.BitsGet(text, at+size-1, 1, false)
		if !ok {
			return -1, 0
		}
		n = 2*n + bit
		for symbol, length := range lengths {
			if length == size && numbers[symbol] == n {
				return symbol, at + size
			}
		}
	}
	return -1, 0
}

func TestPromise12WhatIsReadIsASymbolOrNothing(t *testing.T) {
	r := dice(11)
	for _, lengths := range someCodes() {
		text := someText(r, r.Intn(12))
		for at := range 8*len(text) + 1 {
			symbol, behind := impl.CodeGet(text, at, lengths)
			if want, to := getByWords(text, at, lengths); symbol != want || behind != to {
				t.Fatalf("%v from %d: %d up to %d, not %d up to %d", lengths, at, symbol, behind, want, to)
			}
			if symbol == -1 {
				continue
			}
			bits := impl.CodePut([]int{symbol}, lengths)
			n, ok := impl.BitsGet(text, at, behind-at, false)
			if len(bits) != 1 || bits[0] != (impl.Bit{Value: n, Size: behind - at}) || !ok {
				t.Fatalf("%v: %d is %v, and %d of %d bits was read", lengths, symbol, bits, n, behind-at)
			}
		}
	}
}

func TestCodeGetEdges(t *testing.T) {
	code := []int{2, 1, 3, 3}
	most := strings.Repeat("\x00", impl.TextMax)
	for i, c := range []struct {
		text    string
		at      int
		lengths []int
		symbol  int
		behind  int
	}{
		{"", 0, code, -1, 0},
		{"", 0, nil, -1, 0},
		{"\x00", 0, nil, -1, 0},
		{"\x00", 0, []int{0, 0}, -1, 0},
		{"\x00", 0, []int{1}, 0, 1},
		{"\x01", 0, []int{1}, -1, 0},
		{"\x00\x00", 0, []int{0, 15}, 1, 15},
		{"\x00\x00", 1, []int{0, 15}, 1, 16},
		{"\x00\x00", 2, []int{0, 15}, -1, 0},
		{"\xff\xff\xff", 0, []int{0, 15}, -1, 0},
		{"\x05", 0, code, 0, 2},
		{"\x07", 0, code, 3, 3},
		{"\x03", 0, code, 2, 3},
		{"\xe0", 5, code, 3, 8},
		{"\xe0", 6, code, -1, 0},
		{"\xe0", 7, code, -1, 0},
		{"\x60", 7, code, 1, 8},
		{"\x60", 8, code, -1, 0},
		{"\x60", 9, code, -1, 0},
		{"\x60", -1, code, -1, 0},
		{most, 8*impl.TextMax - 1, code, 1, 8 * impl.TextMax},
		{most, 8 * impl.TextMax, code, -1, 0},
		{most + "\x00", 0, code, -1, 0},
	} {
		if symbol, behind := impl.CodeGet(c.text, c.at, c.lengths); symbol != c.symbol || behind != c.behind {
			t.Errorf("%d: %d up to %d", i, symbol, behind)
		}
	}
	for _, at := range extremes {
		if symbol, behind := impl.CodeGet("abc", at, code); symbol != -1 || behind != 0 {
			t.Errorf("at %d: %d up to %d", at, symbol, behind)
		}
	}
	for _, lengths := range wrongCodes() {
		if symbol, behind := impl.CodeGet("\x00\x00\x00", 0, lengths); symbol != -1 || behind != 0 {
			t.Errorf("%d lengths: %d up to %d", len(lengths), symbol, behind)
		}
	}
}

func TestCodesLeaveTheirArguments(t *testing.T) {
	for _, lengths := range append(someCodes(), wrongCodes()...) {
		laid, check := guarded(lengths, 77)
		often, checkOften := guarded(same(3, len(lengths)), 77)
		list, checkList := guarded(symbolsOf(lengths), 77)
		impl.CodeOk(laid)
		impl.CodeFull(laid)
		impl.CodeGet("\x12\x34\x56", 3, laid)
		impl.CodeCost(often, laid)
		spoil(impl.CodeMake(laid), 99)
		spoil(impl.CodePut(list, laid), impl.Bit{Value: 99, Size: 99})
		check(t, "lengths")
		checkOften(t, "often")
		checkList(t, "list")
	}
	for _, often := range [][]int{nil, {0}, {5}, {1, 1, 2, 3, 5, 8}, fibonacci(19), same(1, impl.CodeSyms), {1, -1}} {
		for _, most := range []int{3, 9, 15} {
			laid, check := guarded(often, 77)
			spoil(impl.CodeFit(laid, most), 99)
			check(t, "CodeFit")
		}
	}
}

func TestCodesAnswerNewMemory(t *testing.T) {
	lengths, often, list := []int{2, 1, 3, 3}, fibonacci(19), []int{0, 1, 3, 2}
	numbers, fitted, bits := impl.CodeMake(lengths), impl.CodeFit(often, 6), impl.CodePut(list, lengths)
	kept1, kept2, kept3 := slices.Clone(numbers), slices.Clone(fitted), slices.Clone(bits)
	spoil(impl.CodeMake(lengths), 99)
	spoil(impl.CodeFit(often, 6), 99)
	spoil(impl.CodePut(list, lengths), impl.Bit{Value: 99, Size: 99})
	if !slices.Equal(numbers, kept1) || !slices.Equal(fitted, kept2) || !slices.Equal(bits, kept3) {
		t.Error("two answers share memory")
	}
	if !slices.Equal(impl.CodeMake(lengths), kept1) || !slices.Equal(impl.CodeFit(often, 6), kept2) || !slices.Equal(impl.CodePut(list, lengths), kept3) {
		t.Error("an answer is kept between two calls")
	}
}
