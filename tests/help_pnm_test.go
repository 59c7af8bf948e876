package tests

import (
	"fmt"
	"math/rand"
	"regexp"
	"slices"
	"strconv"
	"strings"
	"testing"

	"loop.example/intarsia/impl"
)

// pnmCan says whether a PNM can hold a picture.
func pnmCan(m impl.Image) bool {
	return okByWords(m) && (m.Kind == impl.KindGray || m.Kind == impl.KindRgb)
}

// pnmHeadByWords is what stands ahead of the points.
func pnmHeadByWords(m impl.Image, plain bool) string {
	sort, most := 1, ""
	if m.Depth != 1 {
		sort, most = 2, map[int]string{2: "3\n", 4: "15\n", 8: "255\n", 24: "255\n"}[m.Depth]
	}
	if m.Kind == impl.KindRgb {
		sort = 3
	}
	if !plain {
		sort += 3
	}
	return fmt.Sprintf("P%d\n%d %d\n%s", sort, m.Wide, m.High, most)
}

// pnmByWords is what PnmPut must tell.
func pnmByWords(m impl.Image, plain bool) string {
	if !pnmCan(m) {
		return ""
	}
	var out strings.Builder
	out.WriteString(pnmHeadByWords(m, plain))
	for row := range slices.Chunk(m.Pix, m.Wide) {
		bits := ""
		for _, p := range row {
			switch {
			case m.Depth == 1 && plain:
				fmt.Fprintf(&out, " %d", 1-p)
			case m.Depth == 1:
				bits += strconv.Itoa(1 - p)
			case m.Kind == impl.KindRgb && plain:
				fmt.Fprintf(&out, " %d %d %d", p/65536, p/256%256, p%256)
			case m.Kind == impl.KindRgb:
				out.Write([]byte{byte(p / 65536), byte(p / 256), byte(p)})
			case plain:
				fmt.Fprintf(&out, " %d", p)
			default:
				out.WriteByte(byte(p))
			}
		}
		out.WriteString(highText(bits))
		if plain {
			out.WriteByte('\n')
		}
	}
	return out.String()
}

var (
	remarks    = regexp.MustCompile(`#[^\n]*`)
	noughts    = regexp.MustCompile(`\A0*([0-9]{1,3})\z`)
	bitmapHead = regexp.MustCompile(`\AP([14])[\t-\r ]+([0-9]+)[\t-\r ]+([0-9]+)\z`)
	otherHead  = regexp.MustCompile(`\AP([2356])[\t-\r ]+([0-9]+)[\t-\r ]+([0-9]+)[\t-\r ]+([0-9]+)\z`)
	bitFigures = regexp.MustCompile(`\A[\t-\r 01]*\z`)
)

// small is a number of figures, -1 if it has more than three, but for noughts ahead.
func small(text string) int {
	found := noughts.FindStringSubmatch(text)
	if found == nil {
		return -1
	}
	n, _ := strconv.Atoi(found[1])
	return n
}

// pnmSplit is the head of a PNM as numbers, and what stands behind the byte that follows it; the first byte at which it can end is taken.
func pnmSplit(text string) ([]int, string, bool) {
	for end := range len(text) + 1 {
		if end < len(text) && text[end] >= '0' && text[end] <= '9' {
			continue
		}
		head := remarks.ReplaceAllString(text[:end], " ")
		found := bitmapHead.FindStringSubmatch(head)
		if found == nil {
			found = otherHead.FindStringSubmatch(head)
		}
		if found == nil {
			continue
		}
		var numbers []int
		for _, figures := range found[1:] {
			numbers = append(numbers, small(figures))
		}
		return numbers, text[end:], true
	}
	return nil, "", false
}

// plainByWords is all numbers of points in figures; false if there is something else.
func plainByWords(text string, bits bool) ([]int, bool) {
	text = remarks.ReplaceAllString(text, " ")
	if bits {
		if !bitFigures.MatchString(text) {
			return nil, false
		}
		text = strings.NewReplacer("0", " 0", "1", " 1").Replace(text)
	}
	var list []int
	for _, figures := range strings.FieldsFunc(text, func(c rune) bool { return c >= 9 && c <= 13 || c == ' ' }) {
		n := small(figures)
		if n < 0 {
			return nil, false
		}
		list = append(list, n)
	}
	return list, true
}

// bytesByWords is all numbers of points in bytes; false if they are not just as many as there must be.
func bytesByWords(text string, wide int, high int, bits bool, parts int) ([]int, bool) {
	if text == "" || !strings.ContainsRune("\t\n\v\f\r ", rune(text[0])) {
		return nil, false
	}
	text = text[1:]
	var list []int
	if !bits {
		for _, b := range []byte(text) {
			list = append(list, int(b))
		}
		return list, len(text) == wide*high*parts
	}
	row := (wide + 7) / 8
	if len(text) != row*high {
		return nil, false
	}
	for y := range high {
		for _, bit := range bitsOf(text[y*row:(y+1)*row], true)[:wide] {
			list = append(list, int(bit-'0'))
		}
	}
	return list, true
}

// pnmGetByWords is what PnmGet must tell.
func pnmGetByWords(text string) (impl.Image, bool) {
	if len(text) > 9000 {
		return impl.Image{}, false
	}
	head, rest, ok := pnmSplit(text)
	if !ok || head[1] < 1 || head[1] > 20 || head[2] < 1 || head[2] > 20 {
		return impl.Image{}, false
	}
	sort, parts, bits := head[0], 1, len(head) == 3
	m := impl.Image{Kind: impl.KindGray, Depth: 1, Wide: head[1], High: head[2]}
	if !bits {
		m.Depth = map[int]int{3: 2, 15: 4, 255: 8}[head[3]]
	}
	if sort == 3 || sort == 6 {
		if head[3] != 255 {
			return impl.Image{}, false
		}
		m.Kind, m.Depth, parts = impl.KindRgb, 24, 3
	}
	var list []int
	if sort <= 3 {
		list, ok = plainByWords(rest, bits)
	} else {
		list, ok = bytesByWords(rest, m.Wide, m.High, bits, parts)
	}
	if !ok || len(list) != parts*m.Wide*m.High {
		return impl.Image{}, false
	}
	for some := range slices.Chunk(list, parts) {
		point := 0
		for _, n := range some {
			if n > 255 {
				return impl.Image{}, false
			}
			point = 256*point + n
		}
		if bits {
			point = 1 - point
		}
		m.Pix = append(m.Pix, point)
	}
	if !okByWords(m) {
		return impl.Image{}, false
	}
	return m, true
}

// checkPnm holds what is read of a text against the words; it tells whether it is a picture.
func checkPnm(t *testing.T, what string, text string) bool {
	t.Helper()
	want, wantOk := pnmGetByWords(text)
	got, ok := impl.PnmGet(text)
	if ok != wantOk || !samePicture(got, want) {
		t.Fatalf("%s: %q\n%v %v, not\n%v %v", what, text, got, ok, want, wantOk)
	}
	return ok
}

// someBlanks is blanks and remarks, one byte of them at least.
func someBlanks(r *rand.Rand) string {
	out := ""
	for range 1 + r.Intn(3) {
		if r.Intn(4) == 0 {
			out += "#" + strings.ReplaceAll(someText(r, r.Intn(5)), "\n", "x") + []string{"1 2", "", "\r", "#"}[r.Intn(4)] + "\n"
		} else {
			out += []string{"\t", "\n", "\v", "\f", "\r", " "}[r.Intn(6)]
		}
	}
	return out
}

// somePnm is a picture as PNM, with blanks, remarks and noughts wherever they may be.
func somePnm(r *rand.Rand, m impl.Image, plain bool) string {
	head := strings.Fields(pnmHeadByWords(m, plain))
	out := head[0]
	for _, figures := range head[1:] {
		out += someBlanks(r) + strings.Repeat("0", r.Intn(3)) + figures
	}
	points := strings.TrimPrefix(pnmByWords(m, plain), pnmHeadByWords(m, plain))
	if !plain {
		return out + []string{"\t", "\n", "\v", "\f", "\r", " "}[r.Intn(6)] + points
	}
	for i, figures := range strings.Fields(points) {
		if m.Depth == 1 {
			if i == 0 || r.Intn(2) == 0 {
				out += someBlanks(r)
			}
			out += figures
		} else {
			out += someBlanks(r) + strings.Repeat("0", r.Intn(3)) + figures
		}
	}
	if r.Intn(2) == 0 {
		out += someBlanks(r)
	}
	if r.Intn(4) == 0 {
		out += " # the last line does not end"
	}
	return out
}

// hurtFigures is a text with a byte that is one of some, or left out, or put in.
func hurtFigures(r *rand.Rand, text string) string {
	if text == "" {
		return text
	}
	at := r.Intn(len(text))
	b := string("0123456789 \n\t#:-+P"[r.Intn(18)])
	switch r.Intn(4) {
	case 0:
		return text[:at] + text[at+1:]
	case 1:
		return text[:at] + b + text[at:]
	case 2:
		return text[:at] + b + text[at+1:]
	}
	return text[:at]
}

// imageByWords is what ImageWrite must tell.
func imageByWords(m impl.Image) string {
	if !okByWords(m) {
		return ""
	}
	list := func(numbers []int) string {
		out := ""
		for _, n := range numbers {
			out += fmt.Sprintf(" %d", n)
		}
		return out
	}
	return fmt.Sprintf("%d %d %d %d:%s:%s", m.Kind, m.Depth, m.Wide, m.High, list(m.Colors), list(m.Pix))
}

var imageForm = regexp.MustCompile(strings.ReplaceAll(`\A(N) (N) (N) (N):((?: N)*):((?: N)*)\z`, "N", "(?:0|[1-9][0-9]{0,9})"))

// imageReadByWords is what ImageRead must tell.
func imageReadByWords(text string) (impl.Image, bool) {
	found := imageForm.FindStringSubmatch(text)
	if found == nil {
		return impl.Image{}, false
	}
	list := func(text string) []int {
		var numbers []int
		for _, figures := range strings.Fields(text) {
			n, _ := strconv.Atoi(figures)
			numbers = append(numbers, n)
		}
		return numbers
	}
	size := list(strings.Join(found[1:5], " "))
	m := impl.Image{Kind: size[0], Depth: size[1], Wide: size[2], High: size[3], Colors: list(found[5]), Pix: list(found[6])}
	if !okByWords(m) {
		return impl.Image{}, false
	}
	return m, true
}

// checkImage holds what is read of figures against the words; it tells whether it is a picture.
func checkImage(t *testing.T, what string, text string) bool {
	t.Helper()
	want, wantOk := imageReadByWords(text)
	got, ok := impl.ImageRead(text)
	if ok != wantOk || !samePicture(got, want) {
		t.Fatalf("%s: %q\n%v %v, not\n%v %v", what, text, got, ok, want, wantOk)
	}
	if ok && impl.ImageWrite(got) != text {
		t.Fatalf("%s: %q is written in another way", what, text)
	}
	return ok
}
