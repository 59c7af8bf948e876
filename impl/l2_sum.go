package impl

const (
	sumMax    = 4294967295
	crcTurn   = 3988292384
	adlerBase = 65521
)

// crcSum is a CRC-32 that can be gone on with.
type crcSum uint32

// adlerSum is an Adler-32 that can be gone on with.
type adlerSum struct {
	a int
	b int
}

// crcTable is what each low byte of a sum turns into by eight steps.
func crcTable() [256]crcSum {
	var table [256]crcSum
	for i := range table {
		sum := crcSum(i)
		for range 8 {
			if sum&1 == 1 {
				sum = sum>>1 ^ crcTurn
			} else {
				sum >>= 1
			}
		}
		table[i] = sum
	}
	return table
}

// more is the sum with a text behind.
func (s crcSum) more(text string) crcSum {
	table := crcTable()
	s = ^s
	for i := range len(text) {
		s = table[byte(s)^text[i]] ^ s>>8
	}
	return ^s
}

func (s adlerSum) ok() bool {
	return s.a < adlerBase && s.b < adlerBase
}

// more is the sum with a text behind.
func (s adlerSum) more(text string) adlerSum {
	for i := range len(text) {
		s.a = (s.a + int(text[i])) % adlerBase
		s.b = (s.b + s.a) % adlerBase
	}
	return s
}

func (s adlerSum) number() int {
	return s.b<<16 | s.a
}

// sumOk says whether there may be a sum of such a text, gone on with from such a number.
func sumOk(sum int, text string) bool {
	return sum >= 0 && sum <= sumMax && len(text) <= TextMax
}

// Crc32 is the CRC-32 of a text.
func Crc32(text string) int {
	return CrcMore(0, text)
}

// CrcMore is the CRC-32 of a text of which the sum of all ahead is known.
func CrcMore(sum int, text string) int {
	if !sumOk(sum, text) {
		return 0
	}
	return int(crcSum(sum).more(text))
}

// Adler32 is the Adler-32 of a text.
func Adler32(text string) int {
	return AdlerMore(1, text)
}

// AdlerMore is the Adler-32 of a text of which the sum of all ahead is known.
func AdlerMore(sum int, text string) int {
	s := adlerSum{a: sum & 65535, b: sum >> 16}
	if !sumOk(sum, text) || !s.ok() {
		return 0
	}
	return s.more(text).number()
}
