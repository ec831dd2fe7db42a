package tests

import (
	"math/rand"
	"slices"
	"strings"
	"testing"

	"loop.example/g00674/impl"
)

// The tests hold the codes against texts of the characters 0 and 1, which come
// from the parts of the code space that the symbols before a symbol take.

// orderOfSymbols is the order of the codes.
func orderOfSymbols(l []int) []int {
	order := make([]int, len(l))
	for i := range order {
		order[i] = i
	}
	slices.SortStableFunc(order, func(a int, b int) int { return l[a] - l[b] })
	return order
}

// codeTexts writes each code: as many bits as its length of the share of the code space that lies before it.
func codeTexts(l []int) []string {
	texts := make([]string, len(l))
	for i := range l {
		before := 0
		for j := range l {
			if l[j] < l[i] || l[j] == l[i] && j < i {
				before += 1 << (impl.MaxLen - l[j])
			}
		}
		texts[i] = textOfNumber(before, impl.MaxLen)[:l[i]]
	}
	return texts
}

// textOfSymbols joins the codes of the symbols.
func textOfSymbols(codes []string, syms []int) string {
	var t strings.Builder
	for _, i := range syms {
		t.WriteString(codes[i])
	}
	return t.String()
}

// symbolAtStart is the symbol whose code the text begins with, or -1.
func symbolAtStart(codes []string, text string) int {
	return slices.IndexFunc(codes, func(c string) bool { return strings.HasPrefix(text, c) })
}

// smallLens are all valid lists of up to four lengths up to 3, and such with MaxLen among them.
func smallLens() [][]int {
	var list [][]int
	open := [][]int{nil}
	for len(open) > 0 {
		l := open[0]
		open = open[1:]
		if len(l) > 0 && kraftOf(l) <= 1<<impl.MaxLen {
			list = append(list, l)
		}
		if len(l) < 4 {
			for _, x := range []int{1, 2, 3, impl.MaxLen} {
				open = append(open, append(slices.Clone(l), x))
			}
		}
	}
	return list
}

// codeLens are lists of lengths in and out of order, with and without code space left.
func codeLens() [][]int {
	list := slices.Concat(someLens(), smallLens())
	for x := 1; x <= impl.MaxLen; x++ {
		list = append(list, []int{x}, slices.Repeat([]int{x}, min(1<<x, impl.MaxSyms)))
	}
	source := rand.New(rand.NewSource(4))
	for i := range 200 {
		f := make([]int, 2+source.Intn(2+i))
		for j := range f {
			f[j] = 1 << source.Intn(1+i%20)
		}
		l, _ := impl.Lens(f, impl.MaxLen)
		list = append(list, l)
		part := slices.Clone(l[:1+source.Intn(len(l))])
		for j := range part {
			part[j] = min(impl.MaxLen, part[j]+source.Intn(2))
		}
		source.Shuffle(len(part), func(a int, b int) { part[a], part[b] = part[b], part[a] })
		list = append(list, part)
	}
	return list
}

// someSymbols has n symbols of an alphabet of size size, the last one among them.
func someSymbols(n int, size int) []int {
	source := rand.New(rand.NewSource(int64(1000*n + size)))
	syms := make([]int, n)
	for i := range syms {
		syms[i] = source.Intn(size)
	}
	if n > 0 {
		syms[n/2] = size - 1
	}
	return syms
}

// readerAt reads text behind at other bits, and returns where text ends. The bits that its last byte has left are fill.
func readerAt(at int, text string, fill byte) (impl.Rd, int) {
	all := someText(at) + text
	for len(all)%8 != 0 {
		all += string(fill)
	}
	return impl.Rd{Src: bitsOfText(all).Data, At: at}, at + len(text)
}

// readerOfExactly has the bits of text left, and no others.
func readerOfExactly(text string) impl.Rd {
	before := strings.Repeat("1", (8-len(text)%8)%8)
	return impl.Rd{Src: bitsOfText(before + text).Data, At: len(before)}
}

func refusedSyms(t *testing.T, l []int, syms []int) {
	t.Helper()
	if b, ok := impl.PutSyms(l, syms); ok || b != (impl.Bits{}) {
		t.Errorf("PutSyms of %d symbols with %d lengths: %d bits, %v", len(syms), len(l), b.N, ok)
	}
	if n := impl.SymBits(l, syms); n != -1 {
		t.Errorf("SymBits of %d symbols with %d lengths: %d", len(syms), len(l), n)
	}
}

func refusedSym(t *testing.T, l []int, r impl.Rd) {
	t.Helper()
	if i, next, ok := impl.GetSym(l, r); ok || i != -1 || next != (impl.Rd{}) {
		t.Errorf("GetSym with %d lengths from bit %d of %q: %d, %v, %v", len(l), r.At, r.Src, i, next, ok)
	}
}

func refusedRow(t *testing.T, l []int, r impl.Rd, n int) {
	t.Helper()
	if syms, next, ok := impl.GetSyms(l, r, n); ok || len(syms) != 0 || next != (impl.Rd{}) {
		t.Errorf("GetSyms of %d with %d lengths from bit %d of %d bytes: %v, %v, %v", n, len(l), r.At, len(r.Src), syms, next, ok)
	}
}

func TestCodesExamples(t *testing.T) {
	l := []int{2, 3, 3, 1}
	if got := impl.Order(l); !slices.Equal(got, []int{3, 0, 1, 2}) {
		t.Error("Order", got)
	}
	if got := impl.Codes(l); !slices.Equal(got, []int{2, 6, 7, 0}) {
		t.Error("Codes", got)
	}
	b, ok := impl.PutSyms(l, []int{3, 2, 0})
	if !ok || b != (impl.Bits{Data: "\x78", N: 6}) {
		t.Error("PutSyms", b, ok)
	}
	if got := impl.SymBits(l, []int{3, 2, 0}); got != 6 {
		t.Error("SymBits", got)
	}
	syms, r, ok := impl.GetSyms(l, impl.Rd{Src: "\x78"}, 3)
	if !ok || !slices.Equal(syms, []int{3, 2, 0}) || r != (impl.Rd{Src: "\x78", At: 6}) {
		t.Error("GetSyms", syms, r, ok)
	}
}

func TestCodesConstants(t *testing.T) {
	if impl.MaxRow != 2000 {
		t.Error(impl.MaxRow)
	}
}

func TestOrder(t *testing.T) {
	for _, l := range codeLens() {
		if got, want := impl.Order(l), orderOfSymbols(l); !slices.Equal(got, want) {
			t.Fatalf("%v: %v, not %v", l, got, want)
		}
	}
}

func TestCodes(t *testing.T) {
	for _, l := range codeLens() {
		codes := impl.Codes(l)
		if len(codes) != len(l) {
			t.Fatalf("%v: %v", l, codes)
		}
		for i, want := range codeTexts(l) {
			if codes[i] < 0 || codes[i]>>l[i] != 0 || textOfNumber(codes[i], l[i]) != want {
				t.Fatalf("%v: symbol %d has the code %b, not %s", l, i, codes[i], want)
			}
		}
	}
}

// TestCodesSteps follows the document's rule from code to code.
func TestCodesSteps(t *testing.T) {
	for _, l := range codeLens() {
		codes, order := impl.Codes(l), impl.Order(l)
		if codes[order[0]] != 0 {
			t.Fatalf("%v: the first code is %b", l, codes[order[0]])
		}
		for k := 1; k < len(order); k++ {
			before, i := order[k-1], order[k]
			if want := (codes[before] + 1) << (l[i] - l[before]); codes[i] != want {
				t.Fatalf("%v: symbol %d has the code %b, not %b", l, i, codes[i], want)
			}
		}
	}
}

func TestCodesPrefixes(t *testing.T) {
	for _, l := range codeLens() {
		codes := impl.Codes(l)
		for i := range l {
			for j := range l {
				if i != j && l[i] <= l[j] && codes[j]>>(l[j]-l[i]) == codes[i] {
					t.Fatalf("%v: the code of symbol %d begins that of %d", l, i, j)
				}
			}
		}
	}
}

// TestCodesOne has a single symbol, whose code is the zeros of its length.
func TestCodesOne(t *testing.T) {
	for x := 1; x <= impl.MaxLen; x++ {
		l := []int{x}
		if order, codes := impl.Order(l), impl.Codes(l); !slices.Equal(order, []int{0}) || !slices.Equal(codes, []int{0}) {
			t.Errorf("%v: %v and %v", l, order, codes)
		}
		b, ok := impl.PutSyms(l, []int{0, 0})
		if !ok || textOf(t, b) != strings.Repeat("0", 2*x) || impl.SymBits(l, []int{0, 0}) != 2*x {
			t.Errorf("%v: %v, %v", l, b, ok)
		}
		for one := range x {
			refusedSym(t, l, impl.Rd{Src: bitsOfText(strings.Repeat("0", one) + "1" + strings.Repeat("0", 40)).Data})
		}
	}
}

func TestCodesRefuse(t *testing.T) {
	for _, l := range append(invalidLens(), crowdedLens()...) {
		if order, codes := impl.Order(l), impl.Codes(l); len(order) != 0 || len(codes) != 0 {
			t.Errorf("%v: %v and %v", l, order, codes)
		}
		for _, syms := range [][]int{nil, {0}, {0, 0, 0}, {-1}, {len(l)}} {
			refusedSyms(t, l, syms)
		}
		for _, src := range []string{"", "\x00\x00\x00\x00", "\xff\xff\xff\xff", "\x78\x00\x00\x00"} {
			refusedSym(t, l, impl.Rd{Src: src})
			for _, n := range []int{0, 1, 2} {
				refusedRow(t, l, impl.Rd{Src: src}, n)
			}
		}
	}
}

func TestPutSyms(t *testing.T) {
	for _, l := range codeLens() {
		codes := codeTexts(l)
		for _, n := range []int{0, 1, 2, 3, 17, 40} {
			syms := someSymbols(n, len(l))
			want := textOfSymbols(codes, syms)
			b, ok := impl.PutSyms(l, syms)
			if got := textOf(t, b); !ok || got != want {
				t.Fatalf("%v with %v: %s, not %s", syms, l, got, want)
			}
			if got := impl.SymBits(l, syms); got != len(want) {
				t.Fatalf("%v with %v: %d bits, not %d", syms, l, got, len(want))
			}
		}
	}
}

// TestSymBitsCost holds the bits against those of a code for the frequencies.
func TestSymBitsCost(t *testing.T) {
	for _, l := range codeLens() {
		syms := someSymbols(100, len(l))
		f := make([]int, len(l))
		for _, i := range syms {
			f[i]++
		}
		if got, want := impl.SymBits(l, syms), impl.CostOf(f, l); got != want {
			t.Fatalf("%v with %v: %d, not %d", syms, l, got, want)
		}
	}
}

func TestPutSymsNothing(t *testing.T) {
	for _, l := range codeLens() {
		for _, none := range [][]int{nil, {}} {
			if b, ok := impl.PutSyms(l, none); !ok || b != (impl.Bits{}) || impl.SymBits(l, none) != 0 {
				t.Fatalf("%v: %v, %v, %d", l, b, ok, impl.SymBits(l, none))
			}
		}
		for _, r := range []impl.Rd{{}, {Src: "\xff", At: 3}, {Src: "\xff", At: 8}} {
			if syms, next, ok := impl.GetSyms(l, r, 0); !ok || len(syms) != 0 || next != r {
				t.Fatalf("%v: %v, %v, %v", l, syms, next, ok)
			}
		}
	}
}

// TestSymsRow has exactly MaxRow symbols and one more, with short and with the longest codes.
func TestSymsRow(t *testing.T) {
	for _, l := range [][]int{{1}, {20}, {1, 1}, {2, 3, 3, 1}, slices.Repeat([]int{9}, impl.MaxSyms), slices.Repeat([]int{20}, impl.MaxSyms)} {
		syms := someSymbols(impl.MaxRow+1, len(l))
		text := textOfSymbols(codeTexts(l), syms)
		full := syms[:impl.MaxRow]
		want := text[:len(text)-l[syms[impl.MaxRow]]]
		b, ok := impl.PutSyms(l, full)
		if !ok || textOf(t, b) != want || impl.SymBits(l, full) != len(want) {
			t.Errorf("%d lengths: %d bits, not %d, %v", len(l), b.N, len(want), ok)
		}
		refusedSyms(t, l, syms)
		refusedSyms(t, l, slices.Concat(syms, syms))
		for _, at := range []int{0, 5} {
			r, _ := readerAt(at, text, '0')
			got, next, ok := impl.GetSyms(l, r, impl.MaxRow)
			if !ok || !slices.Equal(got, full) || next != (impl.Rd{Src: r.Src, At: at + len(want)}) {
				t.Errorf("%d lengths: %d symbols up to bit %d, %v", len(l), len(got), next.At, ok)
			}
			refusedRow(t, l, r, impl.MaxRow+1)
		}
	}
}

// TestPutSymsRefuses spoils one symbol, at the beginning, inside and at the end.
func TestPutSymsRefuses(t *testing.T) {
	for _, l := range someLens() {
		n := len(l)
		for _, bad := range append(badNumbers(), n, n+1, 2*n, impl.MaxSyms, impl.MaxSyms+1, 256+n, 1<<32+n-1, -n) {
			for place := range 4 {
				syms := someSymbols(4, n)
				syms[place] = bad
				refusedSyms(t, l, syms)
			}
			refusedSyms(t, l, []int{bad})
			row := someSymbols(impl.MaxRow, n)
			row[impl.MaxRow-1] = bad
			refusedSyms(t, l, row)
		}
	}
}

// TestGetSymsInverse reads what was written, at every bit of a byte, with different bits behind it.
func TestGetSymsInverse(t *testing.T) {
	for _, l := range codeLens() {
		syms := someSymbols(20, len(l))
		b, ok := impl.PutSyms(l, syms)
		text := textOf(t, b)
		for at := range 9 {
			for _, behind := range []string{"", "0", "1", "10110", strings.Repeat("0", 33), strings.Repeat("1", 33)} {
				r, _ := readerAt(at, text+behind, '1')
				got, next, is := impl.GetSyms(l, r, len(syms))
				if !ok || !is || !slices.Equal(got, syms) || next != (impl.Rd{Src: r.Src, At: at + len(text)}) {
					t.Fatalf("%v with %v from bit %d, with %q behind: %v, %v, %v", syms, l, at, behind, got, next, is)
				}
			}
		}
	}
}

// TestGetSymChain reads one symbol after another.
func TestGetSymChain(t *testing.T) {
	for _, l := range codeLens() {
		syms := someSymbols(15, len(l))
		codes := codeTexts(l)
		r, end := readerAt(len(l)%11, textOfSymbols(codes, syms), '0')
		for k, want := range syms {
			got, next, ok := impl.GetSym(l, r)
			if !ok || got != want || next != (impl.Rd{Src: r.Src, At: r.At + len(codes[want])}) {
				t.Fatalf("symbol %d of %v with %v: %d, %v, %v", k, syms, l, got, next, ok)
			}
			r = next
		}
		if r.At != end {
			t.Fatalf("%v with %v: bit %d, not %d", syms, l, r.At, end)
		}
	}
}

// TestGetSymEach reads every code of the longest alphabets.
func TestGetSymEach(t *testing.T) {
	for _, l := range codeLens() {
		for want, c := range codeTexts(l) {
			for _, r := range []impl.Rd{readerOfExactly(c), readerOfExactly(c + "1"), readerOfExactly(c + strings.Repeat("0", 30))} {
				got, next, ok := impl.GetSym(l, r)
				if !ok || got != want || next != (impl.Rd{Src: r.Src, At: r.At + len(c)}) {
					t.Fatalf("%s with %v: %d, %v, %v", c, l, got, next, ok)
				}
			}
		}
	}
}

// TestGetSymEnds has every part of a code that ends before the code does.
func TestGetSymEnds(t *testing.T) {
	for _, l := range append(smallLens(), someLens()...) {
		codes := codeTexts(l)
		for i, c := range codes {
			if i > 3 && i < len(codes)-3 {
				continue
			}
			for n := range c {
				refusedSym(t, l, readerOfExactly(c[:n]))
				r := readerOfExactly(codes[0] + c[:n])
				refusedRow(t, l, r, 2)
				refusedRow(t, l, r, impl.MaxRow)
				if syms, next, ok := impl.GetSyms(l, r, 1); !ok || !slices.Equal(syms, []int{0}) || next.At != r.At+l[0] {
					t.Fatalf("%s with %v: %v, %v, %v", codes[0]+c[:n], l, syms, next, ok)
				}
			}
		}
	}
}

// TestGetSymAnyBits reads all texts of up to 8 bits, and longer ones.
func TestGetSymAnyBits(t *testing.T) {
	texts := []string{""}
	for i := 0; len(texts[i]) < 8; i++ {
		texts = append(texts, texts[i]+"0", texts[i]+"1")
	}
	for n := 9; n < 60; n += 3 {
		texts = append(texts, strings.Repeat("0", n), strings.Repeat("1", n), someText(n), strings.Repeat("0", 19)+strings.Repeat("1", n-8))
	}
	for _, l := range append(smallLens(), someLens()...) {
		codes := codeTexts(l)
		for _, text := range texts {
			r := readerOfExactly(text)
			want := symbolAtStart(codes, text)
			if want < 0 {
				refusedSym(t, l, r)
				refusedRow(t, l, r, 1)
				continue
			}
			got, next, ok := impl.GetSym(l, r)
			if !ok || got != want || next != (impl.Rd{Src: r.Src, At: r.At + l[want]}) {
				t.Fatalf("%s with %v: %d, not %d, %v, %v", text, l, got, want, next, ok)
			}
		}
	}
}

// TestGetSymNone has bits that are no symbol's code, at once and behind symbols.
func TestGetSymNone(t *testing.T) {
	for _, l := range [][]int{{1}, {2}, {20}, {2, 2}, {1, 2}, {1, 3, 3}, {20, 20}, {1, 20}, slices.Repeat([]int{9}, impl.MaxSyms)} {
		none := strings.Repeat("1", 100)
		first := codeTexts(l)[0]
		for at := range 8 {
			r, _ := readerAt(at, none, '1')
			refusedSym(t, l, r)
			refusedRow(t, l, r, 1)
			r, _ = readerAt(at, first+first+none, '1')
			refusedRow(t, l, r, 3)
			if syms, next, ok := impl.GetSyms(l, r, 2); !ok || !slices.Equal(syms, []int{0, 0}) || next.At != at+2*l[0] {
				t.Errorf("%v: %v, %v, %v", l, syms, next, ok)
			}
		}
	}
}

func TestGetSymsRefuses(t *testing.T) {
	src := strings.Repeat("\x78\x00\xff", 1000)
	for _, l := range [][]int{{1, 1}, {2, 3, 3, 1}} {
		for _, n := range append(badNumbers(), -2, impl.MaxRow+1, impl.MaxRow+2, 2*impl.MaxRow, 1<<32+1) {
			refusedRow(t, l, impl.Rd{Src: src}, n)
			refusedRow(t, l, impl.Rd{}, n)
		}
		for _, r := range invalidReaders() {
			refusedSym(t, l, r)
			for _, n := range []int{-1, 0, 1, impl.MaxRow, impl.MaxRow + 1} {
				refusedRow(t, l, r, n)
			}
		}
		refusedSym(t, l, impl.Rd{Src: src, At: 8 * len(src)})
		refusedRow(t, l, impl.Rd{Src: src, At: 8 * len(src)}, 1)
	}
}

// TestCodesArguments passes parts of longer slices, all of which must stay as they were.
func TestCodesArguments(t *testing.T) {
	for _, l := range [][]int{{1}, {2, 3, 3, 1}, {3, 2, 1}, {20, 1, 20}, {1, 1, 1}, {0, 1}, slices.Repeat([]int{9, 10}, 130)} {
		allLens := slices.Concat([]int{7}, l, []int{1, 0, 21, 5})
		part := allLens[1 : 1+len(l)]
		for _, syms := range [][]int{nil, {0}, {0, 0, 0, 0}, {len(l) - 1, 0}, {0, -1}, {len(l)}} {
			allSyms := slices.Concat([]int{-3}, syms, []int{0, 9, -4})
			row := allSyms[1 : 1+len(syms)]
			lens, kept := slices.Clone(allLens), slices.Clone(allSyms)
			impl.Order(part)
			impl.Codes(part)
			impl.PutSyms(part, row)
			impl.SymBits(part, row)
			impl.GetSym(part, impl.Rd{Src: "\x78\x12\x00"})
			impl.GetSyms(part, impl.Rd{Src: "\x78\x12\x00"}, 3)
			if !slices.Equal(allLens, lens) || !slices.Equal(allSyms, kept) {
				t.Errorf("%v is %v, %v is %v", lens, allLens, kept, allSyms)
			}
		}
	}
}

// TestCodesKeepNothing spoils results and arguments, and repeats calls with others in between.
func TestCodesKeepNothing(t *testing.T) {
	for _, l := range [][]int{{1}, {2, 3, 3, 1}, {3, 2, 1}, slices.Repeat([]int{9}, impl.MaxSyms)} {
		arg := slices.Clone(l)
		src := strings.Repeat("\x00", 50)
		results := func() [][]int {
			syms, _, _ := impl.GetSyms(arg, impl.Rd{Src: src}, 30)
			return [][]int{impl.Order(arg), impl.Codes(arg), syms}
		}
		first := results()
		var kept [][]int
		for _, x := range first {
			kept = append(kept, slices.Clone(x))
			spare := x[:cap(x)]
			for i := range spare {
				spare[i] = -9
			}
		}
		if !slices.Equal(arg, l) {
			t.Errorf("%v is %v", l, arg)
		}
		impl.Codes([]int{2, 2, 1})
		impl.GetSyms([]int{2, 2, 1}, impl.Rd{Src: src}, 9)
		second := results()
		for i := range arg {
			arg[i] = -8
		}
		if !slices.EqualFunc(second, kept, slices.Equal) {
			t.Errorf("%v: %v, then %v", l, kept, second)
		}
	}
}
