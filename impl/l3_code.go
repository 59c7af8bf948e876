package impl

import "container/heap"

// Limits of codes.
const (
	CodeMax  = 15
	CodeSyms = 300
)

// codeWhole is how many numbers of CodeMax bits there are; a symbol takes those that it begins.
const codeWhole = 1 << CodeMax

// codeNode is a node of a tree: a symbol, or (symbol below 0) what a bit 0 and a bit 1 lead to.
type codeNode struct {
	symbol int
	kids   [2]*codeNode
	often  int
	place  int
}

// nodeHeap has the least node at its top, of equal ones the first.
type nodeHeap []*codeNode

func (h nodeHeap) Len() int {
	return len(h)
}

func (h nodeHeap) Less(i int, j int) bool {
	if h[i].often != h[j].often {
		return h[i].often < h[j].often
	}
	return h[i].place < h[j].place
}

func (h nodeHeap) Swap(i int, j int) {
	h[i], h[j] = h[j], h[i]
}

func (h *nodeHeap) Push(x any) {
	*h = append(*h, x.(*codeNode))
}

func (h *nodeHeap) Pop() any {
	last := len(*h) - 1
	node := (*h)[last]
	*h = (*h)[:last]
	return node
}

// codeTaken is how many of codeWhole the lengths take; false if they are too many, or one is out of bounds.
func codeTaken(lengths []int) (int, bool) {
	if len(lengths) > CodeSyms {
		return 0, false
	}
	taken := 0
	for _, length := range lengths {
		if length < 0 || length > CodeMax {
			return 0, false
		}
		if length > 0 {
			taken += codeWhole >> length
		}
	}
	return taken, true
}

// oftenOk says whether each number of how often a symbol comes is within its bounds.
func oftenOk(often []int) bool {
	for _, n := range often {
		if n < 0 || n > TextMax {
			return false
		}
	}
	return true
}

// CodeOk says whether lengths are those of a code: none begins another one.
func CodeOk(lengths []int) bool {
	taken, ok := codeTaken(lengths)
	return ok && taken <= codeWhole
}

// CodeFull says whether a code leaves nothing over.
func CodeFull(lengths []int) bool {
	taken, ok := codeTaken(lengths)
	return ok && taken == codeWhole
}

// CodeMake is the numbers of a code by its lengths.
func CodeMake(lengths []int) []int {
	if !CodeOk(lengths) {
		return nil
	}
	numbers := make([]int, len(lengths))
	next := 0
	for length := 1; length <= CodeMax; length++ {
		next *= 2
		for symbol := range lengths {
			if lengths[symbol] == length {
				numbers[symbol] = next
				next++
			}
		}
	}
	return numbers
}

// fitOk says whether there is a code for these numbers with no length above most.
func fitOk(often []int, most int) bool {
	if len(often) > CodeSyms || most < 1 || most > CodeMax || !oftenOk(often) {
		return false
	}
	come := 0
	for _, n := range often {
		if n != 0 {
			come++
		}
	}
	return come <= 1<<most
}

// growTree is the tree of numbers of how often each comes; nil if none comes.
func growTree(often []int) *codeNode {
	nodes := &nodeHeap{}
	for symbol, n := range often {
		if n != 0 {
			heap.Push(nodes, &codeNode{symbol: symbol, often: n, place: symbol})
		}
	}
	if nodes.Len() == 0 {
		return nil
	}
	for place := len(often); nodes.Len() > 1; place++ {
		first := heap.Pop(nodes).(*codeNode)
		second := heap.Pop(nodes).(*codeNode)
		both := first.often + second.often
		heap.Push(nodes, &codeNode{symbol: -1, kids: [2]*codeNode{first, second}, often: both, place: place})
	}
	return (*nodes)[0]
}

// tellLengths writes down how deep below the top of a tree each symbol stands.
func (n *codeNode) tellLengths(depth int, lengths []int) {
	if n.symbol >= 0 {
		lengths[n.symbol] = depth
		return
	}
	n.kids[0].tellLengths(depth+1, lengths)
	n.kids[1].tellLengths(depth+1, lengths)
}

// treeLengths is a tree's lengths.
func treeLengths(often []int) []int {
	lengths := make([]int, len(often))
	top := growTree(often)
	if top == nil {
		return lengths
	}
	if top.symbol >= 0 {
		// A symbol alone has no bit to tell it by; it takes one all the same.
		lengths[top.symbol] = 1
		return lengths
	}
	top.tellLengths(0, lengths)
	return lengths
}

// oneAbove says whether a length is above most.
func oneAbove(lengths []int, most int) bool {
	for _, length := range lengths {
		if length > most {
			return true
		}
	}
	return false
}

// halves is each number halved, up: what comes at all goes on to come.
func halves(often []int) []int {
	half := make([]int, len(often))
	for symbol, n := range often {
		half[symbol] = (n + 1) / 2
	}
	return half
}

// CodeFit is lengths of a code for numbers of how often each comes, none longer than so much.
func CodeFit(often []int, most int) []int {
	if !fitOk(often, most) {
		return nil
	}
	lengths := treeLengths(often)
	for oneAbove(lengths, most) {
		often = halves(often)
		lengths = treeLengths(often)
	}
	return lengths
}

// turnRound is a number of so many bits with its highest bit lowest.
func turnRound(n int, size int) int {
	turned := 0
	for range size {
		turned = turned<<1 | n&1
		n >>= 1
	}
	return turned
}

// codeBits is the bits of each symbol, by a code that is ok.
func codeBits(lengths []int) []Bit {
	bits := make([]Bit, len(lengths))
	for symbol, number := range CodeMake(lengths) {
		size := lengths[symbol]
		bits[symbol] = Bit{Value: turnRound(number, size), Size: size}
	}
	return bits
}

// CodePut is symbols as bits.
func CodePut(list []int, lengths []int) []Bit {
	if !CodeOk(lengths) || len(list) > TextMax {
		return nil
	}
	bits := codeBits(lengths)
	out := make([]Bit, len(list))
	for i, symbol := range list {
		if symbol < 0 || symbol >= len(lengths) || lengths[symbol] == 0 {
			return nil
		}
		out[i] = bits[symbol]
	}
	return out
}

// numberTree is the tree in which the bits of a symbol's number, the highest first, lead to it; of a code that is ok.
func numberTree(lengths []int) *codeNode {
	top := &codeNode{symbol: -1}
	for symbol, number := range CodeMake(lengths) {
		if lengths[symbol] > 0 {
			top.plant(symbol, number, lengths[symbol])
		}
	}
	return top
}

// plant makes the way to a symbol.
func (n *codeNode) plant(symbol int, number int, size int) {
	for place := size - 1; place >= 0; place-- {
		bit := number >> place & 1
		if n.kids[bit] == nil {
			n.kids[bit] = &codeNode{symbol: -1}
		}
		n = n.kids[bit]
	}
	n.symbol = symbol
}

// find is the symbol to which the next bits lead; -1 if they lead to none.
func (n *codeNode) find(bits bitStream) int {
	for n.symbol < 0 {
		if bits.room() < 1 {
			return -1
		}
		n = n.kids[bits.next(0)]
		if n == nil {
			return -1
		}
	}
	return n.symbol
}

// CodeGet is the symbol of a text from a bit on, and the bit behind it; -1 if there is none.
func CodeGet(text string, at int, lengths []int) (int, int) {
	if !CodeOk(lengths) || len(text) > TextMax || at < 0 || at > 8*len(text) {
		return -1, 0
	}
	bits := &bitReader{order: orderOf(false), text: text, at: at}
	symbol := numberTree(lengths).find(bits)
	if symbol < 0 {
		return -1, 0
	}
	return symbol, bits.at
}

// CodeCost is how many bits symbols take.
func CodeCost(often []int, lengths []int) int {
	if !CodeOk(lengths) || len(often) != len(lengths) || !oftenOk(often) {
		return 0
	}
	cost := 0
	for symbol, n := range often {
		cost += n * lengths[symbol]
	}
	return cost
}
