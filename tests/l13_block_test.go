package tests

import (
	"math"
	"math/rand"
	"slices"
	"strconv"
	"strings"
	"testing"

	"loop.example/g00674/impl"
)

// The tests hold a block against a text of the characters 0 and 1 for each of its
// parts. A part can be spoilt, and the others kept or written anew, so that
// nothing else is wrong; and any text is read by a reader of texts, part by part.

// written is a block as its parts have it.
type written struct {
	mode     int
	size     int
	sum      int
	text     string
	last     string
	position int
	used     string
	byCount  bool
	order    string
	numbers  []int
	lists    [][]int
	sels     []int
}

type blockPart struct {
	name string
	bits string
}

func sumOf(s string) int {
	return mirrored(allOnes, s) ^ allOnes
}

// writtenAs is how the document writes s.
func writtenAs(s string, w impl.Way) written {
	x := written{mode: w.Mode, size: len(s), sum: sumOf(s), text: s, used: usedIn(s), byCount: w.ByCount, order: usedIn(s)}
	x.last, x.position = lastOf(s)
	if w.ByCount {
		x.order = byCountIn(s)
	}
	x.code(w.Tables)
	return x
}

// code makes the numbers, and their tables, of the last bytes and their order, which may have been changed.
func (x *written) code(k int) {
	n := len(x.order)
	ranks := make([]int, len(x.last))
	for i := range ranks {
		ranks[i] = strings.IndexByte(x.order, x.last[i])
	}
	switch x.mode {
	case impl.BlStored:
		return
	case impl.BlInv:
		counts, gaps := invOf(ranks, n)
		x.numbers = slices.Concat(counts, gaps)
		return
	case impl.BlMtf:
		ranks = mtfOf(ranks)
	case impl.BlSbr:
		ranks = sbrOf(ranks, n)
	}
	x.numbers = packOf(ranks, n)
	x.lists, x.sels = chosenBy(stepsOfChoose(), x.numbers, n+2, k)
}

func (x written) parts() []blockPart {
	parts := []blockPart{{"mode", textOfNumber(x.mode, 2)}, {"size", gammaText(x.size)}, {"sum", textOfNumber(x.sum, 32)}}
	if x.mode == impl.BlStored {
		return append(parts, blockPart{"bytes", textOfBytes(x.text)})
	}
	parts = append(parts, blockPart{"position", gammaText(x.position + 1)}, blockPart{"used", usedText(x.used)})
	if x.byCount {
		parts = append(parts, blockPart{"bit", "1"}, blockPart{"order", orderText(x.order)})
	} else {
		parts = append(parts, blockPart{"bit", "0"})
	}
	if x.mode == impl.BlInv {
		n := len(x.order)
		return append(parts, blockPart{"counts", gammaTexts(x.numbers[:n])}, blockPart{"gaps", gammaTexts(x.numbers[n:])})
	}
	parts = append(parts, blockPart{"tables", textOfNumber(len(x.lists)-1, 2)}, blockPart{"groups", gammaText(len(x.sels))}, blockPart{"sels", selsText(x.sels)})
	for i, l := range x.lists {
		parts = append(parts, blockPart{"lens " + strconv.Itoa(i), lensText(l[0], l)})
	}
	return append(parts, blockPart{"coded", codedText(x.numbers, x.lists, x.sels)})
}

// gammaTexts writes numbers from 0 on.
func gammaTexts(l []int) string {
	var t strings.Builder
	for _, x := range l {
		t.WriteString(gammaText(x + 1))
	}
	return t.String()
}

func joined(parts []blockPart) string {
	var t strings.Builder
	for _, p := range parts {
		t.WriteString(p.bits)
	}
	return t.String()
}

func (x written) bits() string {
	return joined(x.parts())
}

// with has other bits for one part, which the block must have.
func with(t *testing.T, parts []blockPart, name string, bits string) []blockPart {
	t.Helper()
	i := slices.IndexFunc(parts, func(p blockPart) bool { return p.name == name })
	if i < 0 {
		t.Fatalf("%v has no %s", parts, name)
	}
	changed := slices.Clone(parts)
	changed[i].bits = bits
	return changed
}

// textReader reads from the beginning of what is left. All is in vain once something was missing.
type textReader struct {
	left string
	bad  bool
}

func read[T any](r *textReader, get func(text string) (T, int, bool)) T {
	var none T
	if r.bad {
		return none
	}
	x, n, ok := get(r.left)
	if !ok {
		r.bad = true
		return none
	}
	r.left = r.left[n:]
	return x
}

func (r *textReader) number(width int) int {
	return read(r, func(text string) (int, int, bool) {
		if len(text) < width {
			return 0, 0, false
		}
		return numberOfText(text[:width]), width, true
	})
}

func (r *textReader) require(ok bool) {
	r.bad = r.bad || !ok
}

// blockOfText returns the string, the number of its bits, and the error.
func blockOfText(text string, most int) (string, int, int) {
	r := &textReader{left: text}
	mode := r.number(2)
	size := read(r, gammaOfText)
	if r.bad {
		return "", 0, impl.DcForm
	}
	if size > impl.MaxBlock || size > most {
		return "", 0, impl.DcLong
	}
	sum := r.number(32)
	s := ""
	if mode == impl.BlStored {
		for range size {
			s += string([]byte{byte(r.number(8))})
		}
	} else {
		s = r.ranked(mode, size)
	}
	if r.bad {
		return "", 0, impl.DcForm
	}
	if sumOf(s) != sum {
		return "", 0, impl.DcSum
	}
	return s, len(text) - len(r.left), impl.DcOk
}

func (r *textReader) ranked(mode int, size int) string {
	position := read(r, gammaOfText) - 1
	used := read(r, usedOfText)
	order := used
	if r.number(1) == 1 {
		order = read(r, func(text string) (string, int, bool) { return orderOfText(text, used) })
	}
	var ranks []int
	if mode == impl.BlInv {
		ranks = r.byGaps(len(order), size)
	} else {
		ranks = r.bySymbols(mode, len(order), size)
	}
	r.require(len(ranks) == size)
	if r.bad {
		return ""
	}
	last := ""
	for _, rank := range ranks {
		last += order[rank : rank+1]
	}
	s, ok := unrotateOf(last, position)
	r.require(ok && usedIn(last) == used)
	return s
}

// byGaps trusts chapter 8 with the inverse transform, as bySymbols does.
func (r *textReader) byGaps(n int, size int) []int {
	counts := make([]int, n)
	sum := 0
	for i := range counts {
		counts[i] = read(r, gammaOfText) - 1
		r.require(counts[i] <= impl.MaxBlock)
		sum += counts[i]
	}
	r.require(sum == size)
	if r.bad {
		return nil
	}
	gaps := make([]int, size-counts[n-1])
	for i := range gaps {
		gaps[i] = read(r, gammaOfText) - 1
	}
	ranks, ok := impl.UnInv(counts, gaps, n)
	r.require(ok)
	return ranks
}

func (r *textReader) bySymbols(mode int, n int, size int) []int {
	k := r.number(2) + 1
	groups := read(r, gammaOfText)
	r.require(groups <= impl.MaxBlock)
	sels := read(r, func(text string) ([]int, int, bool) { return selsOfText(text, groups, k) })
	var lists [][]int
	for range k {
		lists = append(lists, read(r, func(text string) ([]int, int, bool) { return lensOfText(text, n+2) }))
	}
	if r.bad {
		return nil
	}
	codes := textsOf(lists)
	symbols := read(r, func(text string) ([]int, int, bool) { return codedOfText(text, codes, sels, n+1) })
	numbers, ok := unpackOf(symbols, n, size)
	r.require(ok)
	if mode == impl.BlMtf {
		return impl.UnMtf(numbers, n)
	}
	return impl.UnSbr(numbers, n)
}

// everyWay is all valid methods.
func everyWay() []impl.Way {
	ways := []impl.Way{{Mode: impl.BlStored}, {Mode: impl.BlInv}, {Mode: impl.BlInv, ByCount: true}}
	for k := 1; k <= impl.MaxTables; k++ {
		for _, mode := range []int{impl.BlMtf, impl.BlSbr} {
			ways = append(ways, impl.Way{Mode: mode, Tables: k}, impl.Way{Mode: mode, ByCount: true, Tables: k})
		}
	}
	return ways
}

// rankedWays is all valid methods but the stored one.
func rankedWays() []impl.Way {
	return everyWay()[1:]
}

// noWays break each of the conditions of WayOk, alone where that is possible.
func noWays() []impl.Way {
	ways := []impl.Way{{ByCount: true}}
	for _, byCount := range []bool{false, true} {
		for _, mode := range append(badNumbers(), -2, impl.BlInv+1, impl.BlInv+2, 255, 256, 1<<32+1) {
			for k := range impl.MaxTables + 1 {
				ways = append(ways, impl.Way{Mode: mode, ByCount: byCount, Tables: k})
			}
		}
		for _, k := range noTableCounts() {
			ways = append(ways, impl.Way{Mode: impl.BlMtf, ByCount: byCount, Tables: k}, impl.Way{Mode: impl.BlSbr, ByCount: byCount, Tables: k})
		}
		for _, k := range append(badNumbers(), 1, 2, 3, 4, 5, -2, -impl.MaxTables, 256, 1<<32) {
			ways = append(ways, impl.Way{Mode: impl.BlStored, ByCount: byCount, Tables: k}, impl.Way{Mode: impl.BlInv, ByCount: byCount, Tables: k})
		}
	}
	return ways
}

// fewBlocks are short: of one byte, one byte value, periodic, with orders by count that differ from the ascending ones, and with bytes at the ends of the range.
func fewBlocks() []string {
	return []string{"a", "\x00", "\xff", "aa", "ab", "ba", "abb", "bba", "aaaa", "abab", "baba", "abcab", "banana", "mississippi", "\x00\xff\x00\xff", "\x80\x7f\xff",
		"the sea, the shore, the sea again", strings.Repeat("abc", 7), strings.Repeat("z", 31), fibonacciText(34), someBytes(19)}
}

// blocks are also all byte values, and sizes up to MaxBlock.
func blocks() []string {
	source := rand.New(rand.NewSource(130))
	every := everyByte()
	list := append(fewBlocks(), every, reversedBytes(every), shuffledBytes(source, every), every[:255], every[1:]+every[128:])
	for _, n := range []int{impl.MaxBlock - 1, impl.MaxBlock} {
		list = append(list, strings.Repeat("\xff", n), fibonacciText(n), someBytes(n), strings.Repeat("the sea ", 75)[:n], strings.Repeat(every, 3)[:n])
	}
	for i := range 8 {
		list = append(list, fewBytes(source, 30+70*i, 2+3*i))
	}
	return list
}

// writes requires the bits of s, their number, and its symbols, and returns the text.
func writes(t *testing.T, s string, w impl.Way) string {
	t.Helper()
	x := writtenAs(s, w)
	want := x.bits()
	if got := impl.Stage(s, w); !slices.Equal(got, x.numbers) {
		t.Fatalf("%d bytes %.40q with %v: %d symbols %v, not %d symbols %v", len(s), s, w, len(got), start(got), len(x.numbers), start(x.numbers))
	}
	b, ok := impl.EncodeBlock(s, w)
	if !ok || textOf(t, b) != want {
		t.Fatalf("%d bytes %.40q with %v: %v, %s, not %s", len(s), s, w, ok, textOf(t, b), want)
	}
	if n := impl.BlockCost(s, w); n != len(want) {
		t.Fatalf("%d bytes %.40q with %v: %d bits, not %d", len(s), s, w, n, len(want))
	}
	return want
}

func refusedEncode(t *testing.T, s string, w impl.Way) {
	t.Helper()
	if got := impl.Stage(s, w); len(got) != 0 {
		t.Errorf("%d bytes %.40q with %v: %d symbols %v", len(s), s, w, len(got), start(got))
	}
	if b, ok := impl.EncodeBlock(s, w); ok || b != (impl.Bits{}) {
		t.Errorf("%d bytes %.40q with %v: %d bits, %v", len(s), s, w, b.N, ok)
	}
	if n := impl.BlockCost(s, w); n != -1 {
		t.Errorf("%d bytes %.40q with %v: the cost %d", len(s), s, w, n)
	}
}

// gotBlock requires that r has this block, up to bit number end.
func gotBlock(t *testing.T, r impl.Rd, most int, s string, end int) {
	t.Helper()
	got, next, code := impl.DecodeBlock(r, most)
	if code != impl.DcOk || got != s || next != (impl.Rd{Src: r.Src, At: end}) {
		t.Fatalf("from bit %d of %d bytes, at most %d: %.40q up to bit %d, error %d, not %.40q up to bit %d", r.At, len(r.Src), most, got, next.At, code, s, end)
	}
}

func refusedBlock(t *testing.T, r impl.Rd, most int, want int) {
	t.Helper()
	if s, next, code := impl.DecodeBlock(r, most); code != want || s != "" || next != (impl.Rd{}) {
		t.Fatalf("from bit %d of %d bytes %.60q, at most %d: %.40q, %d, error %d, not %d", r.At, len(r.Src), r.Src, most, s, next.At, code, want)
	}
}

// readAsBlock requires the block that the text has, or its error, which it returns.
func readAsBlock(t *testing.T, text string, most int) int {
	t.Helper()
	r := readerOfExactly(text)
	s, used, code := blockOfText(text, most)
	if code == impl.DcOk {
		gotBlock(t, r, most, s, r.At+used)
	} else {
		refusedBlock(t, r, most, code)
	}
	return code
}

// fails requires this error of the parts, and the same with other bits behind them.
func fails(t *testing.T, parts []blockPart, most int, want int) {
	t.Helper()
	text := joined(parts)
	for _, behind := range []string{"", "0", "1", strings.Repeat("0", 700), strings.Repeat("1", 700), strings.Repeat("01", 350)} {
		if code := readAsBlock(t, text+behind, most); code != want {
			t.Fatalf("%v and %d bits: error %d, not %d", parts, len(behind), code, want)
		}
	}
}

// passes requires this string of the parts.
func passes(t *testing.T, parts []blockPart, s string) {
	t.Helper()
	text := joined(parts)
	for i, behind := range []string{"", "0", "1", strings.Repeat("1", 40), strings.Repeat("0", 41)} {
		r, end := readerAt(5*i, text, '1')
		r.Src += behind
		gotBlock(t, r, len(s), s, end)
		if code := readAsBlock(t, text+behind, len(s)); code != impl.DcOk {
			t.Fatalf("%v: error %d", parts, code)
		}
	}
}

func TestBlockExamples(t *testing.T) {
	if got := impl.Stage("abcab", impl.Way{Mode: impl.BlMtf, Tables: 1}); !slices.Equal(got, []int{3, 3, 3, 0, 2, 4}) {
		t.Error("Stage", got)
	}
	b, ok := impl.EncodeBlock("ab", impl.Way{})
	if !ok || b.N != 53 || impl.BlockCost("ab", impl.Way{}) != 53 {
		t.Error("EncodeBlock", b.N, ok)
	}
	gotBlock(t, impl.Rd{Src: b.Data}, 2, "ab", 53)
}

func TestBlockConstants(t *testing.T) {
	if impl.BlStored != 0 || impl.BlMtf != 1 || impl.BlSbr != 2 || impl.BlInv != 3 {
		t.Error(impl.BlStored, impl.BlMtf, impl.BlSbr, impl.BlInv)
	}
	if impl.DcOk != 0 || impl.DcForm != 1 || impl.DcLong != 2 || impl.DcSum != 3 {
		t.Error(impl.DcOk, impl.DcForm, impl.DcLong, impl.DcSum)
	}
}

func TestWayOk(t *testing.T) {
	for _, w := range everyWay() {
		if !impl.WayOk(w) {
			t.Errorf("%v is refused", w)
		}
	}
	for _, w := range noWays() {
		if impl.WayOk(w) {
			t.Errorf("%v is accepted", w)
		}
	}
	for mode := -1; mode <= 5; mode++ {
		for k := -1; k <= 6; k++ {
			for _, byCount := range []bool{false, true} {
				w := impl.Way{Mode: mode, ByCount: byCount, Tables: k}
				if got, want := impl.WayOk(w), slices.Contains(everyWay(), w); got != want {
					t.Errorf("%v: %v", w, got)
				}
			}
		}
	}
}

// TestStageByHand has symbols that were found on paper.
func TestStageByHand(t *testing.T) {
	for _, c := range []struct {
		s       string
		mode    int
		byCount bool
		symbols []int
	}{
		{"a", impl.BlMtf, false, []int{0, 2}},
		{"a", impl.BlSbr, true, []int{0, 2}},
		{"a", impl.BlInv, false, []int{1}},
		{"aaaa", impl.BlMtf, true, []int{1, 0, 2}},
		{"aaaa", impl.BlInv, true, []int{4}},
		// The last bytes are ba, and the ranks 1 0.
		{"ab", impl.BlMtf, false, []int{2, 2, 3}},
		{"ab", impl.BlInv, false, []int{1, 1, 1}},
		// The last bytes are bba, and the ranks 1 1 0, or 0 0 1 by count.
		{"abb", impl.BlMtf, false, []int{2, 0, 2, 3}},
		{"abb", impl.BlMtf, true, []int{1, 2, 3}},
		{"abb", impl.BlSbr, false, []int{2, 0, 2, 3}},
		{"abb", impl.BlSbr, true, []int{1, 2, 3}},
		{"abb", impl.BlInv, false, []int{1, 2, 2}},
		{"abb", impl.BlInv, true, []int{2, 1, 0, 0}},
		// The last bytes are cbaab, and the ranks 2 1 0 0 1.
		{"abcab", impl.BlMtf, false, []int{3, 3, 3, 0, 2, 4}},
		{"abcab", impl.BlSbr, false, []int{3, 3, 3, 0, 2, 4}},
		{"abcab", impl.BlInv, false, []int{2, 2, 1, 2, 0, 1, 0}},
		// The last bytes are nnbaaa, and the ranks 2 2 1 0 0 0, or 1 1 2 0 0 0 by count.
		{"banana", impl.BlMtf, false, []int{3, 0, 3, 3, 1, 4}},
		{"banana", impl.BlMtf, true, []int{2, 0, 3, 3, 1, 4}},
		{"banana", impl.BlSbr, false, []int{3, 0, 3, 3, 1, 4}},
		{"banana", impl.BlInv, false, []int{3, 1, 2, 3, 0, 0, 2}},
		{"banana", impl.BlInv, true, []int{3, 2, 1, 3, 0, 0, 0, 0}},
		// The last bytes are pssmipissii, and the ranks 2 3 3 1 0 2 0 3 3 0 0.
		{"mississippi", impl.BlMtf, false, []int{3, 4, 0, 4, 4, 4, 2, 4, 0, 2, 0, 5}},
		{"mississippi", impl.BlSbr, false, []int{3, 4, 0, 4, 4, 4, 2, 3, 2, 2, 0, 5}},
	} {
		for k := 1; k <= impl.MaxTables; k++ {
			w := impl.Way{Mode: c.mode, ByCount: c.byCount, Tables: k}
			if c.mode == impl.BlInv {
				w.Tables = 0
			}
			if got := impl.Stage(c.s, w); !slices.Equal(got, c.symbols) {
				t.Errorf("%q with %v: %v, not %v", c.s, w, got, c.symbols)
			}
		}
	}
}

// TestBlocksByHand has bits that were written on paper, all but the check sum.
func TestBlocksByHand(t *testing.T) {
	used := "0000001000000000" + "0110000000000000"
	for _, c := range []struct {
		s     string
		w     impl.Way
		front string
		rest  string
	}{
		{"a", impl.Way{}, "00" + "1", "01100001"},
		{"ab", impl.Way{}, "00" + "010", "0110000101100010"},
		{"\x00\xff\x80", impl.Way{}, "00" + "011", "00000000" + "11111111" + "10000000"},
		{"ab", impl.Way{Mode: impl.BlInv}, "11" + "010", "1" + used + "0" + "010" + "010" + "010"},
		{"ba", impl.Way{Mode: impl.BlInv}, "11" + "010", "010" + used + "0" + "010" + "010" + "010"},
		{"abb", impl.Way{Mode: impl.BlInv}, "11" + "011", "1" + used + "0" + "010" + "011" + "011"},
		{"abb", impl.Way{Mode: impl.BlInv, ByCount: true}, "11" + "011", "1" + used + "1" + "1" + "011" + "010" + "1" + "1"},
		{"aaaa", impl.Way{Mode: impl.BlInv}, "11" + "00100", "00100" + "0000001000000000" + "0100000000000000" + "0" + "00101"},
		{"aaaa", impl.Way{Mode: impl.BlInv, ByCount: true}, "11" + "00100", "00100" + "0000001000000000" + "0100000000000000" + "1" + "00101"},
		// The symbols 2 2 3 of four have codes of two bits each.
		{"ab", impl.Way{Mode: impl.BlMtf, Tables: 1}, "01" + "010", "1" + used + "0" + "00" + "1" + "0" + "00010" + "0000" + "10" + "10" + "11"},
		{"ab", impl.Way{Mode: impl.BlSbr, Tables: 1}, "10" + "010", "1" + used + "0" + "00" + "1" + "0" + "00010" + "0000" + "10" + "10" + "11"},
		// The only group has the first table; the symbols of the other one have the weight 1 each.
		{"ab", impl.Way{Mode: impl.BlMtf, Tables: 2}, "01" + "010", "1" + used + "0" + "01" + "1" + "0" + "00010" + "0000" + "00010" + "0000" + "10" + "10" + "11"},
		// The symbols 1 2 3.
		{"abb", impl.Way{Mode: impl.BlSbr, ByCount: true, Tables: 4}, "10" + "011", "1" + used + "1" + "1" + "11" + "1" + "0" + strings.Repeat("00010"+"0000", 4) + "01" + "10" + "11"},
		// The symbols 1 0 2 of three: the last one is the shortest.
		{"aaaa", impl.Way{Mode: impl.BlMtf, Tables: 1}, "01" + "00100", "00100" + "0000001000000000" + "0100000000000000" + "0" + "00" + "1" + "0" + "00010" + "0" + "0" + "110" + "11" + "10" + "0"},
	} {
		text := c.front + textOfNumber(impl.Crc(c.s), 32) + c.rest
		b, ok := impl.EncodeBlock(c.s, c.w)
		if got := textOf(t, b); !ok || got != text || impl.BlockCost(c.s, c.w) != len(text) {
			t.Errorf("%q with %v: %s, %d, not %s", c.s, c.w, got, impl.BlockCost(c.s, c.w), text)
		}
		r := readerOfExactly(text)
		gotBlock(t, r, len(c.s), c.s, r.At+len(text))
	}
}

// TestBlocks has every method for blocks of each kind.
func TestBlocks(t *testing.T) {
	for i, s := range blocks() {
		for j, w := range everyWay() {
			// The references take their time for a long block.
			if len(s) > 100 && (i+j)%3 > 0 {
				continue
			}
			text := writes(t, s, w)
			for _, most := range []int{len(s), len(s) + 1, impl.MaxBlock, impl.MaxBlock + 1, math.MaxInt} {
				r, end := readerAt((i+j)%9, text, '1')
				gotBlock(t, r, most, s, end)
			}
			r := readerOfExactly(text)
			gotBlock(t, r, len(s), s, r.At+len(text))
		}
	}
}

// TestBlocksEach has every block within small limits.
func TestBlocksEach(t *testing.T) {
	ways := everyWay()
	i := 0
	for _, c := range []struct {
		symbols string
		most    int
	}{{"a", 12}, {"ab", 6}, {"\x00\xff", 5}, {"abc", 4}} {
		for n := 1; n <= c.most; n++ {
			for _, s := range allStrings(c.symbols, n) {
				for range 5 {
					i++
					text := writes(t, s, ways[i%len(ways)])
					r := readerOfExactly(text)
					gotBlock(t, r, n, s, r.At+len(text))
				}
			}
		}
	}
}

// TestBlockSizes has blocks of every size. Each method comes with sizes of all kinds.
func TestBlockSizes(t *testing.T) {
	source := rand.New(rand.NewSource(131))
	ways := everyWay()
	for n := 1; n <= impl.MaxBlock; n++ {
		for i, s := range []string{fewBytes(source, n, 1+n%26), someBytes(n), strings.Repeat("ab", n)[:n]} {
			w := ways[(n+7*i)%len(ways)]
			b, ok := impl.EncodeBlock(s, w)
			if !ok || b.N != impl.BlockCost(s, w) || b.N > impl.MaxBits {
				t.Fatalf("%d bytes %.40q with %v: %d bits, not %d, %v", n, s, w, b.N, impl.BlockCost(s, w), ok)
			}
			gotBlock(t, impl.Rd{Src: b.Data}, n, s, b.N)
			refusedBlock(t, impl.Rd{Src: b.Data}, n-1, impl.DcLong)
			refusedBlock(t, impl.Rd{Src: b.Data[:len(b.Data)-1]}, n, impl.DcForm)
		}
	}
}

// TestBlocksTables has blocks for whose groups several tables are chosen, so that the number of tables shows.
func TestBlocksTables(t *testing.T) {
	s := strings.Repeat("a", 80) + someBytes(100) + strings.Repeat("abc", 40) + strings.Repeat("tosh", 20)
	for _, mode := range []int{impl.BlMtf, impl.BlSbr} {
		for k := 1; k <= impl.MaxTables; k++ {
			for _, byCount := range []bool{false, true} {
				w := impl.Way{Mode: mode, ByCount: byCount, Tables: k}
				text := writes(t, s, w)
				passes(t, []blockPart{{"all", text}}, s)
				if x := writtenAs(s, w); slices.Max(x.sels) != k-1 {
					t.Errorf("%v: the tables %v", w, x.sels)
				}
			}
		}
	}
}

func TestEncodeBlockRefuses(t *testing.T) {
	for _, w := range append(everyWay(), noWays()...) {
		for _, s := range []string{"", strings.Repeat("a", impl.MaxBlock+1), someBytes(impl.MaxBlock + 1), strings.Repeat("ab", impl.MaxBlock), someBytes(100001)} {
			refusedEncode(t, s, w)
		}
	}
	for _, w := range noWays() {
		for _, s := range []string{"a", "abcab", someBytes(impl.MaxBlock)} {
			refusedEncode(t, s, w)
		}
	}
}

// TestStageStored has no symbols, though the method is valid.
func TestStageStored(t *testing.T) {
	for _, s := range blocks() {
		if got := impl.Stage(s, impl.Way{}); len(got) != 0 {
			t.Errorf("%d bytes %.40q: %d symbols", len(s), s, len(got))
		}
	}
}

// TestDecodeBlockBehind has bits left over, which are not read, and other bits ahead.
func TestDecodeBlockBehind(t *testing.T) {
	for _, s := range fewBlocks() {
		for _, w := range everyWay() {
			passes(t, writtenAs(s, w).parts(), s)
		}
	}
}

// TestDecodeBlockRow reads blocks one behind the other, each with what the ones before leave of most.
func TestDecodeBlockRow(t *testing.T) {
	all := impl.Bits{}
	most := 0
	for _, w := range everyWay() {
		for _, s := range fewBlocks() {
			b, _ := impl.EncodeBlock(s, w)
			all, _ = impl.Join(all, b)
			most += len(s)
		}
	}
	r := impl.Rd{Src: all.Data}
	for _, w := range everyWay() {
		for _, s := range fewBlocks() {
			got, next, code := impl.DecodeBlock(r, most)
			if code != impl.DcOk || got != s {
				t.Fatalf("%q with %v from bit %d: %q, error %d", s, w, r.At, got, code)
			}
			most -= len(s)
			r = next
		}
	}
	if r.At != all.N || most != 0 {
		t.Errorf("up to bit %d of %d", r.At, all.N)
	}
}

// TestDecodeBlockEnds has every part of the bits that ends before the last of them.
func TestDecodeBlockEnds(t *testing.T) {
	for _, s := range []string{"a", "ab", "abcab", "mississippi", someBytes(17), strings.Repeat("a", 50)} {
		for _, w := range everyWay() {
			x := writtenAs(s, w)
			text := x.bits()
			head := 2 + len(gammaText(len(s)))
			for n := range len(text) {
				r := readerOfExactly(text[:n])
				for _, most := range []int{len(s), impl.MaxBlock, math.MaxInt} {
					refusedBlock(t, r, most, impl.DcForm)
				}
				// The size is too great as soon as it is there.
				for _, most := range []int{len(s) - 1, 0, -1, math.MinInt} {
					want := impl.DcForm
					if n >= head {
						want = impl.DcLong
					}
					refusedBlock(t, r, most, want)
				}
				if readAsBlock(t, text[:n], len(s)) != impl.DcForm {
					t.Fatalf("%q with %v: %d bits", s, w, n)
				}
			}
		}
	}
}

// TestDecodeBlockMissing leaves one part out, with all the others as they were. What is then read in its place is told by the texts.
func TestDecodeBlockMissing(t *testing.T) {
	codes := map[int]int{}
	for _, s := range []string{"abcab", "mississippi", someBytes(17), strings.Repeat("abc", 12)} {
		for _, w := range everyWay() {
			parts := writtenAs(s, w).parts()
			for i := range parts {
				if parts[i].bits == "" {
					continue
				}
				rest := joined(parts[:i]) + joined(parts[i+1:])
				for _, behind := range []string{"", strings.Repeat("0", 500), strings.Repeat("1", 500)} {
					code := readAsBlock(t, rest+behind, impl.MaxBlock)
					codes[code]++
					if code == impl.DcOk {
						t.Errorf("%q with %v is read without its %s", s, w, parts[i].name)
					}
				}
			}
		}
	}
	if codes[impl.DcForm] < 100 {
		t.Error(codes)
	}
}

// TestDecodeBlockLong has sizes greater than most or MaxBlock, with nothing behind them, or anything.
func TestDecodeBlockLong(t *testing.T) {
	for mode := range 4 {
		front := textOfNumber(mode, 2)
		for _, behind := range []string{"", "0", "1", strings.Repeat("0", 31), strings.Repeat("0", 900), strings.Repeat("1", 900)} {
			for _, size := range []int{impl.MaxBlock + 1, impl.MaxBlock + 2, 1023, 1024, 6000, impl.MaxGamma - 1, impl.MaxGamma} {
				for _, most := range []int{size - 1, size, size + 1, impl.MaxBlock, impl.MaxBlock + 1, math.MaxInt, 0, -1, math.MinInt} {
					refusedBlock(t, readerOfExactly(front+gammaText(size)+behind), most, impl.DcLong)
				}
			}
			for _, size := range []int{1, 2, 3, 4, 5, 100, 511, 512, impl.MaxBlock - 1, impl.MaxBlock} {
				r := readerOfExactly(front + gammaText(size) + behind)
				for _, most := range []int{size - 1, size - 2, 0, -1, -size, -impl.MaxBlock, math.MinInt, math.MinInt + 1, -1 << 32} {
					refusedBlock(t, r, most, impl.DcLong)
				}
				for _, most := range []int{size, size + 1, impl.MaxBlock, impl.MaxBlock + 1, math.MaxInt, 1 << 32} {
					if len(behind) < 32 && most >= size {
						refusedBlock(t, r, most, impl.DcForm)
					}
				}
			}
			// A number that no code has is a missing one, however great it would be.
			for _, zeros := range []int{20, 21, 32, 64, 400} {
				for _, most := range []int{math.MaxInt, impl.MaxBlock, 0, -1, math.MinInt} {
					refusedBlock(t, readerOfExactly(front+strings.Repeat("0", zeros)+"1"+behind), most, impl.DcForm)
				}
			}
		}
	}
}

// TestDecodeBlockLongBlock has a good block of one byte more than MaxBlock.
func TestDecodeBlockLongBlock(t *testing.T) {
	for _, s := range []string{someBytes(impl.MaxBlock + 1), strings.Repeat("a", impl.MaxBlock+1)} {
		text := written{mode: impl.BlStored, size: len(s), sum: sumOf(s), text: s}.bits()
		for _, most := range []int{math.MaxInt, len(s), impl.MaxBlock} {
			refusedBlock(t, readerOfExactly(text), most, impl.DcLong)
		}
	}
	x := writtenAs(strings.Repeat("ab", 301), impl.Way{Mode: impl.BlInv})
	refusedBlock(t, readerOfExactly(x.bits()), math.MaxInt, impl.DcLong)
}

// TestDecodeBlockReaders has readers that are not valid, for which no most is looked at.
func TestDecodeBlockReaders(t *testing.T) {
	b, _ := impl.EncodeBlock("ab", impl.Way{})
	for _, most := range []int{math.MaxInt, impl.MaxBlock, 2, 1, 0, -1, math.MinInt} {
		for _, r := range append(invalidReaders(), impl.Rd{Src: b.Data, At: -1}, impl.Rd{Src: b.Data, At: 8*len(b.Data) + 1}, impl.Rd{}, impl.Rd{Src: b.Data, At: 8 * len(b.Data)}) {
			refusedBlock(t, r, most, impl.DcForm)
		}
	}
}

// TestDecodeBlockSum has a wrong check sum alone, or beside something that is found first.
func TestDecodeBlockSum(t *testing.T) {
	for _, s := range []string{"a", "abcab", "banana", strings.Repeat("ab", 20), someBytes(40)} {
		for _, w := range everyWay() {
			x := writtenAs(s, w)
			for i := range 32 {
				x.sum ^= 1 << i
				refusedBlock(t, readerOfExactly(x.bits()), len(s), impl.DcSum)
				if i%8 == 0 {
					fails(t, x.parts(), len(s), impl.DcSum)
					refusedBlock(t, readerOfExactly(x.bits()), len(s)-1, impl.DcLong)
					refusedBlock(t, readerOfExactly(x.bits()[:len(x.bits())-1]), len(s), impl.DcForm)
				}
				x.sum ^= 1 << i
			}
			for _, sum := range []int{0, allOnes, x.sum ^ allOnes} {
				fails(t, with(t, x.parts(), "sum", textOfNumber(sum, 32)), len(s), impl.DcSum)
			}
			if w.Mode != impl.BlStored {
				x.sum ^= 1
				x.position = len(s)
				fails(t, x.parts(), len(s), impl.DcForm)
			}
		}
	}
	// Any other byte is found.
	x := writtenAs("abcab", impl.Way{})
	for i := range 5 {
		for b := range 256 {
			s := []byte(x.text)
			s[i] = byte(b)
			if string(s) != x.text {
				refusedBlock(t, readerOfExactly(joined(with(t, x.parts(), "bytes", textOfBytes(string(s))))), 5, impl.DcSum)
			}
		}
	}
}

// TestDecodeBlockPosition has positions behind the end, ones that no code has, and those of other strings.
func TestDecodeBlockPosition(t *testing.T) {
	for _, s := range []string{"a", "ab", "abcab", "mississippi", strings.Repeat("abc", 9)} {
		for _, w := range rankedWays() {
			x := writtenAs(s, w)
			for _, position := range []int{len(s), len(s) + 1, 2 * len(s), impl.MaxBlock, impl.MaxBlock + 1, impl.MaxGamma - 1} {
				x.position = position
				fails(t, x.parts(), len(s), impl.DcForm)
			}
			for _, zeros := range []int{20, 21, 40} {
				fails(t, with(t, x.parts(), "position", strings.Repeat("0", zeros)+"1"), len(s), impl.DcForm)
			}
			// The position of another rotation is its own.
			for place, i := range rotationsOf(s) {
				if other := rotationOf(s, i); other != s && periodOf(s) == len(s) {
					x.position = place
					fails(t, x.parts(), len(s), impl.DcSum)
					passes(t, writtenAs(other, w).parts(), other)
				}
			}
		}
	}
}

// TestDecodeBlockEqualRotations has the positions of rotations that are equal to the string, with the right check sum.
func TestDecodeBlockEqualRotations(t *testing.T) {
	for _, s := range []string{"aa", "abab", "aaaa", strings.Repeat("abc", 4), strings.Repeat("ba", 10)} {
		for _, w := range rankedWays() {
			x := writtenAs(s, w)
			own := x.position
			for place, i := range rotationsOf(s) {
				if place != own && rotationOf(s, i) == s {
					x.position = place
					fails(t, x.parts(), len(s), impl.DcForm)
				}
			}
		}
	}
}

// TestDecodeBlockNoTransform has last bytes that are not those of any string, with the check sum of what following Lf leads to.
func TestDecodeBlockNoTransform(t *testing.T) {
	for _, last := range []string{"ab", "aab", "abb", "abc", "abab", "aaab", "cabbage"} {
		for position := range len(last) {
			candidate, at := "", position
			for range len(last) {
				candidate, at = last[at:at+1]+candidate, lfOf(last)[at]
			}
			for _, w := range rankedWays() {
				x := writtenAs(last, w)
				x.last, x.position, x.sum = last, position, sumOf(candidate)
				x.code(w.Tables)
				if s, is := unrotateOf(last, position); is {
					passes(t, x.parts(), s)
				} else {
					fails(t, x.parts(), len(last), impl.DcForm)
				}
			}
		}
	}
}

// TestDecodeBlockUsed has sets without a group or a byte in a group.
func TestDecodeBlockUsed(t *testing.T) {
	none := strings.Repeat("0", 16)
	for _, s := range []string{"a", "abcab", "\x00\xff\x00\xff", someBytes(30)} {
		for _, w := range rankedWays() {
			parts := writtenAs(s, w).parts()
			whole := usedText(usedIn(s))
			fails(t, with(t, parts, "used", none), len(s), impl.DcForm)
			fails(t, with(t, parts, "used", none+whole), len(s), impl.DcForm)
			for at := 16; at < len(whole); at += 16 {
				fails(t, with(t, parts, "used", whole[:at]+none+whole[at+16:]), len(s), impl.DcForm)
			}
		}
	}
}

// TestDecodeBlockMoreUsed has a byte in the set that does not occur. All else is written as if it did.
func TestDecodeBlockMoreUsed(t *testing.T) {
	for _, s := range []string{"b", "bd", "bdfbd", "mississippi", strings.Repeat("z", 30), someBytes(12)} {
		for _, w := range rankedWays() {
			for _, more := range []string{"\x00", "a", "c", "z", "\xff", "ac", everyByte()} {
				x := writtenAs(s, w)
				if x.used = usedIn(s + more); x.used == usedIn(s) {
					continue
				}
				x.order = x.used
				if w.ByCount {
					x.order = byCountIn(s)
					for i := range len(more) {
						if strings.IndexByte(x.order, more[i]) < 0 {
							x.order += more[i : i+1]
						}
					}
				}
				x.code(w.Tables)
				fails(t, x.parts(), len(s), impl.DcForm)
			}
		}
	}
}

// TestDecodeBlockOrder has orders with an index that is too large.
func TestDecodeBlockOrder(t *testing.T) {
	for _, s := range []string{"abcab", "mississippi", "abcde", someBytes(30)} {
		for _, w := range rankedWays() {
			if !w.ByCount {
				continue
			}
			x := writtenAs(s, w)
			whole := orderText(x.order)
			list := len(x.order)
			at := 0
			for list > 1 {
				width := indexWidth(list)
				if list < 1<<width {
					for _, index := range []int{list, 1<<width - 1} {
						fails(t, with(t, x.parts(), "order", whole[:at]+textOfNumber(index, width)+whole[at+width:]), len(s), impl.DcForm)
					}
				}
				at += width
				list--
			}
		}
	}
}

// TestDecodeBlockAnyOrder has orders that are not by count, which the bit allows.
func TestDecodeBlockAnyOrder(t *testing.T) {
	source := rand.New(rand.NewSource(132))
	for _, s := range []string{"a", "ab", "abcab", "mississippi", someBytes(30)} {
		for _, w := range rankedWays() {
			x := writtenAs(s, w)
			x.byCount = true
			for _, order := range []string{x.used, byCountIn(s), reversedBytes(x.used), shuffledBytes(source, x.used)} {
				x.order = order
				x.code(w.Tables)
				passes(t, x.parts(), s)
			}
		}
	}
}

// TestDecodeBlockBit has the other bit for the byte order, so that an order is read where none is, or none where one is.
func TestDecodeBlockBit(t *testing.T) {
	for _, s := range []string{"abb", "abcab", "mississippi", someBytes(30)} {
		for _, w := range rankedWays() {
			parts := writtenAs(s, w).parts()
			bit := "1"
			if w.ByCount {
				bit = "0"
			}
			readAsBlock(t, joined(with(t, parts, "bit", bit)), len(s))
			readAsBlock(t, joined(with(t, parts, "bit", bit))+strings.Repeat("0", 600), len(s))
		}
	}
	// A string of one byte value has no bits for its order.
	for _, w := range rankedWays() {
		x := writtenAs("aaa", w)
		x.byCount = !x.byCount
		passes(t, x.parts(), "aaa")
	}
}

// tabledWays are the methods with tables.
func tabledWays() []impl.Way {
	return slices.DeleteFunc(rankedWays(), func(w impl.Way) bool { return w.Tables == 0 })
}

// longerBlocks have symbols in several groups.
func longerBlocks() []string {
	return []string{"abcab", "the sea, the shore, the sea again", someBytes(29), fewBytes(rand.New(rand.NewSource(133)), 60, 5)}
}

// TestDecodeBlockGroups has a group too many, one too few, and numbers greater than MaxBlock.
func TestDecodeBlockGroups(t *testing.T) {
	for _, s := range longerBlocks() {
		for _, w := range tabledWays() {
			x := writtenAs(s, w)
			own := x.sels
			for _, more := range [][]int{{0}, {0, 0}, {w.Tables - 1}, make([]int, 150), make([]int, impl.MaxBlock-len(own))} {
				x.sels = slices.Concat(own, more)
				fails(t, x.parts(), len(s), impl.DcForm)
			}
			parts := x.parts()
			x.sels = own
			fewer := x.parts()
			if len(own) > 1 {
				fewer = with(t, with(t, fewer, "groups", gammaText(len(own)-1)), "sels", selsText(own[:len(own)-1]))
				fails(t, fewer, len(s), impl.DcForm)
			}
			for _, groups := range []int{impl.MaxBlock + 1, impl.MaxBlock + 2, 1023, 1024, impl.MaxGamma} {
				many := with(t, parts, "groups", gammaText(groups))
				fails(t, many, len(s), impl.DcForm)
				fails(t, with(t, many, "sels", strings.Repeat("0", min(groups, 5000))), len(s), impl.DcForm)
			}
			fails(t, with(t, x.parts(), "groups", strings.Repeat("0", 20)+"1"), len(s), impl.DcForm)
		}
	}
}

// TestDecodeBlockSels has as many 1 bits as there are tables, at each place.
func TestDecodeBlockSels(t *testing.T) {
	for _, s := range longerBlocks() {
		for _, w := range tabledWays() {
			x := writtenAs(s, w)
			for i := range x.sels {
				ahead := selsText(x.sels[:i])
				for _, ones := range []int{w.Tables, w.Tables + 1, 8, 40} {
					fails(t, with(t, x.parts(), "sels", ahead+strings.Repeat("1", ones)+"0"+strings.Repeat("0", len(x.sels)-i-1)), len(s), impl.DcForm)
				}
			}
		}
	}
}

// TestDecodeBlockAnyTables has other tables than the chosen ones, other indices, and steps up and down for one length.
func TestDecodeBlockAnyTables(t *testing.T) {
	source := rand.New(rand.NewSource(134))
	for _, s := range longerBlocks() {
		for _, w := range tabledWays() {
			x := writtenAs(s, w)
			x.sels = someSels(source, len(x.sels), w.Tables)
			passes(t, x.parts(), s)
			for i := range x.lists {
				x.lists[i] = slices.Repeat([]int{10 + i}, len(x.order)+2)
			}
			passes(t, x.parts(), s)
			whole := lensText(12, x.lists[0])
			passes(t, with(t, x.parts(), "lens 0", whole), s)
			passes(t, with(t, x.parts(), "lens 0", whole[:5]+"1011"+whole[5:]), s)
		}
	}
}

// TestDecodeBlockLens has lengths outside the range, and lists that no code has, as each table.
func TestDecodeBlockLens(t *testing.T) {
	for _, s := range longerBlocks() {
		for _, w := range tabledWays() {
			x := writtenAs(s, w)
			n := len(x.order) + 2
			crowded := slices.Repeat([]int{1}, n)
			for i := range x.lists {
				name := "lens " + strconv.Itoa(i)
				for _, bits := range []string{
					lensText(1, crowded), firstText(0) + strings.Repeat("0", n), firstText(21) + strings.Repeat("0", n), firstText(31) + strings.Repeat("0", n),
					firstText(1) + "1110" + lensText(2, x.lists[i])[5:], firstText(20) + "1011" + lensText(20, x.lists[i])[5:],
				} {
					fails(t, with(t, x.parts(), name, bits), len(s), impl.DcForm)
				}
			}
		}
	}
}

// TestDecodeBlockCoded has bits that are no code, and symbols without an end.
func TestDecodeBlockCoded(t *testing.T) {
	for _, s := range longerBlocks() {
		for _, w := range tabledWays() {
			x := writtenAs(s, w)
			end := len(x.numbers) - 1
			open := x
			open.numbers = x.numbers[:end]
			text := open.bits()
			refusedBlock(t, readerOfExactly(text), len(s), impl.DcForm)
			// All groups have other symbols, and the end comes behind them.
			full := x
			full.numbers = slices.Repeat([]int{2}, 10*len(x.sels))
			text = full.bits()
			fails(t, []blockPart{{"all", text}, {"end", codedText([]int{len(x.order) + 1}, x.lists, x.sels[:1])}}, len(s), impl.DcForm)
			// A code is not used, and its bits are there.
			for i := range x.lists {
				x.lists[i] = slices.Repeat([]int{9}, len(x.order)+2)
			}
			passes(t, x.parts(), s)
			for _, at := range []int{0, 9, 9 * end} {
				coded := codedText(x.numbers, x.lists, x.sels)
				fails(t, with(t, x.parts(), "coded", coded[:at]+"111111111"+coded[at:]), len(s), impl.DcForm)
			}
		}
	}
}

// TestDecodeBlockRuns has run digits of more numbers than the size, alone or beside another number.
func TestDecodeBlockRuns(t *testing.T) {
	for _, w := range tabledWays() {
		for _, size := range []int{2, 5, 30, impl.MaxBlock} {
			s := strings.Repeat("a", size-1) + "b"
			b, _ := impl.EncodeBlock(s, w)
			gotBlock(t, impl.Rd{Src: b.Data}, size, s, b.N)
			x := written{mode: w.Mode, size: size, sum: sumOf(s), used: "ab", order: "ab"}
			x.lists = slices.Repeat([][]int{{2, 2, 2, 2}}, w.Tables)
			for _, symbols := range [][]int{
				runOf(size + 1), append(runOf(size), 2), append([]int{2}, runOf(size)...), append(runOf(impl.MaxBlock), 2),
				slices.Repeat([]int{1}, 9), slices.Repeat([]int{0}, 12), slices.Repeat([]int{1}, 70), slices.Repeat([]int{0}, 200),
			} {
				x.numbers = append(symbols, 3)
				x.sels = make([]int, (len(x.numbers)+9)/10)
				fails(t, x.parts(), size, impl.DcForm)
			}
		}
	}
}

// TestDecodeBlockCount has another size than the ranks, with the check sum of what the ranks give.
func TestDecodeBlockCount(t *testing.T) {
	for _, s := range []string{"a", "aa", "ab", "abcab", "mississippi", strings.Repeat("ab", 20), someBytes(40), strings.Repeat("a", 100)} {
		for _, w := range rankedWays() {
			x := writtenAs(s, w)
			for _, size := range []int{len(s) - 2, len(s) - 1, len(s) + 1, len(s) + 2, 2 * len(s), impl.MaxBlock} {
				if size >= 1 {
					x.size = size
					fails(t, x.parts(), impl.MaxBlock, impl.DcForm)
				}
			}
		}
	}
	// An end alone is no rank.
	for _, w := range tabledWays() {
		x := writtenAs("a", w)
		x.numbers = []int{2}
		fails(t, x.parts(), impl.MaxBlock, impl.DcForm)
	}
}

// countedWays are the methods with counts and gaps.
func countedWays() []impl.Way {
	return []impl.Way{{Mode: impl.BlInv}, {Mode: impl.BlInv, ByCount: true}}
}

// TestDecodeBlockCounts has counts with another sum, or with a number that is greater than MaxBlock.
func TestDecodeBlockCounts(t *testing.T) {
	for _, s := range []string{"a", "ab", "abcab", "mississippi", strings.Repeat("ab", 20), someBytes(40)} {
		for _, w := range countedWays() {
			x := writtenAs(s, w)
			n := len(x.order)
			counts := slices.Clone(x.numbers[:n])
			for i := range counts {
				for _, count := range []int{counts[i] - 1, counts[i] + 1, counts[i] + 2, impl.MaxBlock, impl.MaxBlock + 1, 2 * impl.MaxBlock, impl.MaxGamma - 1} {
					if count < 0 {
						continue
					}
					changed := slices.Clone(counts)
					changed[i] = count
					parts := with(t, x.parts(), "counts", gammaTexts(changed))
					fails(t, parts, len(s), impl.DcForm)
					// There are gaps for all of them.
					fails(t, with(t, parts, "gaps", strings.Repeat("1", 3000)), len(s), impl.DcForm)
				}
				ahead := gammaTexts(counts[:i])
				fails(t, with(t, x.parts(), "counts", ahead+strings.Repeat("0", 20)+"1"), len(s), impl.DcForm)
			}
		}
	}
	s := strings.Repeat("a", impl.MaxBlock)
	x := writtenAs(s, impl.Way{Mode: impl.BlInv})
	passes(t, with(t, x.parts(), "counts", gammaTexts([]int{impl.MaxBlock})), s)
	for _, count := range []int{0, 1, impl.MaxBlock - 1, impl.MaxBlock + 1, impl.MaxBlock + 2, 1<<16 + impl.MaxBlock, impl.MaxGamma - 1} {
		fails(t, with(t, x.parts(), "counts", gammaTexts([]int{count})), impl.MaxBlock, impl.DcForm)
	}
}

// TestDecodeBlockGaps has gaps of more symbols than there are greater ones.
func TestDecodeBlockGaps(t *testing.T) {
	for _, s := range []string{"ab", "abcab", "mississippi", strings.Repeat("ab", 20), someBytes(40)} {
		for _, w := range countedWays() {
			x := writtenAs(s, w)
			n := len(x.order)
			counts, gaps := x.numbers[:n], x.numbers[n:]
			at := 0
			for symbol := range n - 1 {
				greater := 0
				for _, count := range counts[symbol+1:] {
					greater += count
				}
				for range counts[symbol] {
					for _, gap := range []int{greater + 1, greater + 2, impl.MaxBlock, impl.MaxBlock + 1, impl.MaxGamma - 1} {
						changed := slices.Clone(gaps)
						changed[at] = gap
						fails(t, with(t, x.parts(), "gaps", gammaTexts(changed)), len(s), impl.DcForm)
					}
					fails(t, with(t, x.parts(), "gaps", gammaTexts(gaps[:at])+strings.Repeat("0", 20)+"1"), len(s), impl.DcForm)
					greater -= gaps[at]
					at++
				}
			}
		}
	}
}

// TestDecodeBlockAnyBits reads all texts of up to twelve bits.
func TestDecodeBlockAnyBits(t *testing.T) {
	for size := range 13 {
		for v := range 1 << size {
			for _, most := range []int{-1, 0, 1, 3, impl.MaxBlock, math.MaxInt} {
				readAsBlock(t, textOfNumber(v, size), most)
			}
		}
	}
}

// spoiltText changes, leaves out, or puts in a few bits.
func spoiltText(source *rand.Rand, text string, from int) string {
	for range 1 + source.Intn(3) {
		at := from + source.Intn(len(text)-from)
		switch source.Intn(4) {
		case 0:
			text = text[:at] + text[at+1:]
		case 1:
			text = text[:at] + textOfNumber(source.Intn(2), 1) + text[at:]
		default:
			text = text[:at] + textOfNumber(int('1'-text[at]), 1) + text[at+1:]
		}
	}
	return text
}

// TestDecodeBlockSpoilt reads blocks with a few bits changed behind the check sum, or anywhere. The texts must show each error often.
func TestDecodeBlockSpoilt(t *testing.T) {
	source := rand.New(rand.NewSource(135))
	ways := everyWay()
	codes := map[int]int{}
	for i := range 6000 {
		w := ways[i%len(ways)]
		s := fewBytes(source, 1+source.Intn(40), 1+source.Intn(5))
		parts := writtenAs(s, w).parts()
		from := 0
		if i%4 > 0 {
			from = len(joined(parts[:3]))
		}
		text := spoiltText(source, joined(parts), from)
		codes[readAsBlock(t, text+someText(source.Intn(30)), len(s)+source.Intn(3)-1)]++
	}
	if codes[impl.DcForm] < 500 || codes[impl.DcLong] < 500 || codes[impl.DcSum] < 100 {
		t.Error(codes)
	}
}

// TestDecodeBlockRightSum reads spoilt blocks with the check sum of what they are, so that some of them are read.
func TestDecodeBlockRightSum(t *testing.T) {
	source := rand.New(rand.NewSource(136))
	ways := rankedWays()
	codes := map[int]int{}
	for i := range 4000 {
		w := ways[i%len(ways)]
		s := fewBytes(source, 1+source.Intn(12), 1+source.Intn(4))
		parts := writtenAs(s, w).parts()
		from := len(joined(parts[:3]))
		text := spoiltText(source, joined(parts), from)
		if other, ok := stringBehind(text, from, len(s)); ok {
			text = joined(with(t, parts[:3], "sum", textOfNumber(sumOf(other), 32))) + text[from:]
		}
		codes[readAsBlock(t, text, len(s))]++
	}
	if codes[impl.DcOk] < 50 || codes[impl.DcForm] < 500 {
		t.Error(codes)
	}
}

// stringBehind is the string that the bits behind the check sum give.
func stringBehind(text string, from int, size int) (string, bool) {
	r := &textReader{left: text[from:]}
	s := r.ranked(numberOfText(text[:2]), size)
	return s, !r.bad
}

// TestDecodeBlockAnyBytes reads any bytes: a single error and nothing else, or a string that is not too long.
func TestDecodeBlockAnyBytes(t *testing.T) {
	source := rand.New(rand.NewSource(137))
	for i := range 20000 {
		data := make([]byte, source.Intn(200))
		for j := range data {
			data[j] = byte(source.Intn(256)) & byte(source.Intn(256))
		}
		if len(data) > 0 && i%2 == 0 {
			// A small size is more often read on.
			data[0] = data[0]&0xc0 | 0x20
		}
		r := impl.Rd{Src: string(data), At: source.Intn(8*len(data) + 1)}
		if i%2 == 0 {
			r.At = 0
		}
		most := source.Intn(impl.MaxBlock+10) - 5
		s, next, code := impl.DecodeBlock(r, most)
		switch code {
		case impl.DcOk:
			if s == "" || len(s) > most || next.Src != r.Src || next.At <= r.At {
				t.Fatalf("%q from bit %d, at most %d: %q up to bit %d", data, r.At, most, s, next.At)
			}
		case impl.DcForm, impl.DcLong, impl.DcSum:
			if s != "" || next != (impl.Rd{}) {
				t.Fatalf("%q from bit %d, at most %d: %q, %v, error %d", data, r.At, most, s, next, code)
			}
		default:
			t.Fatalf("%q from bit %d, at most %d: error %d", data, r.At, most, code)
		}
	}
}

// TestDecodeBlockManyBits reads a great many equal bytes, behind heads that let it read as much as it can.
func TestDecodeBlockManyBits(t *testing.T) {
	for _, b := range []string{"\x00", "\xff", "\x55", "\xaa", "\x49"} {
		many := strings.Repeat(b, 400000)
		for mode := range 4 {
			for _, size := range []int{1, 5, impl.MaxBlock} {
				head := textOfNumber(mode, 2) + gammaText(size) + textOfNumber(0, 32) + "1" + usedText(everyByte()) + "0"
				data := bitsOfText(head).Data + many
				s, next, code := impl.DecodeBlock(impl.Rd{Src: data}, math.MaxInt)
				if code == impl.DcOk || s != "" || next != (impl.Rd{}) {
					t.Errorf("mode %d, %d bytes, %q: %.40q, error %d", mode, size, b, s, code)
				}
			}
		}
	}
}

// TestBlockKeepsNothing spoils results with what lies behind them, and repeats the calls with others in between.
func TestBlockKeepsNothing(t *testing.T) {
	for _, s := range []string{"a", "abcab", strings.Repeat("ab", 100), someBytes(50)} {
		for _, w := range everyWay() {
			x := writtenAs(s, w)
			text := x.bits()
			for range 3 {
				if writes(t, s, w) != text {
					t.Fatalf("%.40q with %v", s, w)
				}
				spoil(impl.Stage(s, w))
				r := readerOfExactly(text)
				gotBlock(t, r, len(s), s, r.At+len(text))
				refusedBlock(t, r, len(s)-1, impl.DcLong)
				impl.EncodeBlock("cab", impl.Way{Mode: impl.BlInv, ByCount: true})
				impl.DecodeBlock(impl.Rd{Src: "\x20"}, 0)
			}
		}
	}
}
