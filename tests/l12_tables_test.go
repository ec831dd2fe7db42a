package tests

import (
	"math/rand"
	"slices"
	"strings"
	"testing"

	"loop.example/g00674/impl"
)

// The tests hold the bits against texts of the characters 0 and 1, and the tables
// that are chosen against the document's steps, which the tests can vary.

// steps are those of Choose, and what could be mistaken for them.
type steps struct {
	first    func(i int, k int, g int) int
	rounds   int
	behind   bool
	greatest bool
}

// stepsOfChoose are those of the document.
func stepsOfChoose() steps {
	return steps{first: func(i int, k int, g int) int { return i * k / g }, rounds: 2, behind: true}
}

// otherSteps differ from those of the document in one respect each.
func otherSteps() map[string]steps {
	others := map[string]steps{}
	for name, change := range map[string]func(s *steps){
		"rounded up":      func(s *steps) { s.first = func(i int, k int, g int) int { return min(k-1, (i*k+g-1)/g) } },
		"rounded":         func(s *steps) { s.first = func(i int, k int, g int) int { return min(k-1, (2*i*k+g)/(2*g)) } },
		"in turn":         func(s *steps) { s.first = func(i int, k int, g int) int { return i % k } },
		"equal numbers":   func(s *steps) { s.first = func(i int, k int, g int) int { return i / ((g + k - 1) / k) } },
		"one less":        func(s *steps) { s.first = func(i int, k int, g int) int { return max(0, i*k-1) / g } },
		"all to 0":        func(s *steps) { s.first = func(int, int, int) int { return 0 } },
		"one round":       func(s *steps) { s.rounds = 1 },
		"three rounds":    func(s *steps) { s.rounds = 3 },
		"no round":        func(s *steps) { s.rounds = 0 },
		"not once more":   func(s *steps) { s.behind = false },
		"greatest index":  func(s *steps) { s.greatest = true },
		"many rounds":     func(s *steps) { s.rounds = 9 },
		"one, not behind": func(s *steps) { s.rounds, s.behind = 1, false },
	} {
		s := stepsOfChoose()
		change(&s)
		others[name] = s
	}
	return others
}

// groupsIn divides the symbols into groups.
func groupsIn(syms []int) [][]int {
	var groups [][]int
	for len(syms) > impl.Group {
		groups = append(groups, syms[:impl.Group])
		syms = syms[impl.Group:]
	}
	if len(syms) > 0 {
		groups = append(groups, syms)
	}
	return groups
}

// tablesFor are the code lengths for the frequencies in the groups of each table. Chapter 3 is trusted with them.
func tablesFor(groups [][]int, sels []int, n int, k int) [][]int {
	var tables [][]int
	for j := range k {
		f := make([]int, n)
		for i, group := range groups {
			for _, x := range group {
				if sels[i] == j {
					f[x]++
				}
			}
		}
		l, _ := impl.Lens(f, impl.MaxLen)
		tables = append(tables, l)
	}
	return tables
}

// bitsOfGroup is how many bits the group needs.
func bitsOfGroup(group []int, l []int) int {
	n := 0
	for _, x := range group {
		n += l[x]
	}
	return n
}

// bestOf is the index of a table with which the group needs the fewest bits.
func bestOf(group []int, tables [][]int, greatest bool) int {
	best := 0
	for j := range tables {
		here, before := bitsOfGroup(group, tables[j]), bitsOfGroup(group, tables[best])
		if here < before || greatest && here == before {
			best = j
		}
	}
	return best
}

// chosenBy goes through the steps.
func chosenBy(s steps, syms []int, n int, k int) ([][]int, []int) {
	groups := groupsIn(syms)
	sels := make([]int, len(groups))
	for i := range groups {
		sels[i] = s.first(i, k, len(groups))
	}
	tables := tablesFor(groups, sels, n, k)
	for round := range s.rounds {
		if round > 0 {
			tables = tablesFor(groups, sels, n, k)
		}
		for i, group := range groups {
			sels[i] = bestOf(group, tables, s.greatest)
		}
	}
	if s.behind {
		tables = tablesFor(groups, sels, n, k)
	}
	return tables, sels
}

// lensIn are the lengths of the tables.
func lensIn(t []impl.Table) [][]int {
	var lists [][]int
	for _, x := range t {
		lists = append(lists, x.Lens)
	}
	return lists
}

// tablesOf are tables with these lengths.
func tablesOf(lists ...[]int) []impl.Table {
	var t []impl.Table
	for _, l := range lists {
		t = append(t, impl.Table{Lens: l})
	}
	return t
}

// symbolsIn are the digits of the text; the spaces between groups are for the reader alone.
func symbolsIn(text string) []int {
	var syms []int
	for i := range len(text) {
		if text[i] != ' ' {
			syms = append(syms, int(text[i]-'0'))
		}
	}
	return syms
}

// selsText has as many 1 bits as each number has others since its last occurrence, and a 0 bit.
func selsText(sels []int) string {
	var t strings.Builder
	for _, rank := range mtfOf(sels) {
		t.WriteString(strings.Repeat("1", rank) + "0")
	}
	return t.String()
}

// selsOfText reads count indices below k, and returns how many bits they have.
func selsOfText(text string, count int, k int) ([]int, int, bool) {
	var sels []int
	list := ascendingTo(k)
	used := 0
	for range count {
		rank := strings.IndexByte(text[used:], '0')
		if rank < 0 || rank >= k {
			return nil, 0, false
		}
		x := list[rank]
		list = slices.Insert(slices.Delete(list, rank, rank+1), 0, x)
		sels = append(sels, x)
		used += rank + 1
	}
	return sels, used, true
}

// codedText joins the codes of the symbols, each of the table of its group.
func codedText(syms []int, lists [][]int, sels []int) string {
	codes := textsOf(lists)
	var t strings.Builder
	for i, x := range syms {
		t.WriteString(codes[sels[i/impl.Group]][x])
	}
	return t.String()
}

// textsOf are the codes of each table.
func textsOf(lists [][]int) [][]string {
	var codes [][]string
	for _, l := range lists {
		codes = append(codes, codeTexts(l))
	}
	return codes
}

// codedOfText reads up to the end, which must be in the last group, and returns how many bits it has read.
func codedOfText(text string, codes [][]string, sels []int, end int) ([]int, int, bool) {
	var syms []int
	used := 0
	for i := range min(impl.MaxRow, len(sels)*impl.Group) {
		group := i / impl.Group
		x := symbolAtStart(codes[sels[group]], text[used:])
		if x < 0 {
			return nil, 0, false
		}
		syms = append(syms, x)
		used += len(codes[sels[group]][x])
		if x == end {
			return syms, used, group == len(sels)-1
		}
	}
	return nil, 0, false
}

// groupedSymbols has size symbols below n. Each group has mostly the symbols around one of a few.
func groupedSymbols(source *rand.Rand, size int, n int) []int {
	syms := make([]int, size)
	middles := someSymbols(1+source.Intn(5), n)
	middle := 0
	for i := range syms {
		if i%impl.Group == 0 {
			middle = middles[source.Intn(len(middles))]
		}
		syms[i] = min(n-1, max(0, middle+source.Intn(3)-source.Intn(3)))
		if source.Intn(6) == 0 {
			syms[i] = source.Intn(n)
		}
	}
	return syms
}

// pairedSymbols has groups of two symbols below n each, which often need almost equally many bits with several tables.
func pairedSymbols(source *rand.Rand, groups int, n int) []int {
	var syms []int
	for range groups {
		a, b := source.Intn(n), source.Intn(n)
		m := []int{0, 1, 3, 5}[source.Intn(4)]
		syms = slices.Concat(syms, slices.Repeat([]int{a}, impl.Group-m), slices.Repeat([]int{b}, m))
	}
	return syms
}

// rowLengths are lengths of sequences: few groups, whole ones and parts of them, and the limit.
func rowLengths() []int {
	return []int{0, 1, 2, 9, 10, 11, 19, 20, 21, 29, 30, 31, 39, 40, 41, 45, 50, 60, 70, 99, 100, 101, 137, 599, 600, 1001, impl.MaxRow - 10, impl.MaxRow - 9, impl.MaxRow - 1, impl.MaxRow}
}

// sequences are valid for the alphabet size n.
func sequences(n int) [][]int {
	source := rand.New(rand.NewSource(int64(n)))
	list := [][]int{nil, {}}
	for i, size := range rowLengths() {
		each := [][]int{groupedSymbols(source, size, n), localSymbols(source, size, n), someSymbols(size, n), slices.Repeat([]int{n - 1}, size), make([]int, size)}
		// A large alphabet takes the chosen tables most of their time.
		if n > 12 {
			each = each[i%2 : i%2+1]
		}
		list = append(list, each...)
	}
	return list
}

// alphabetSizes are the limits, and some between.
func alphabetSizes() []int {
	return []int{1, 2, 3, 4, 5, 12, 58, 128, 257, 258, impl.MaxSyms - 1, impl.MaxSyms}
}

// noAlphabetSizes are no numbers of symbols.
func noAlphabetSizes() []int {
	return append(badNumbers(), 0, -2, -impl.MaxSyms, impl.MaxSyms+1, impl.MaxSyms+2, 2*impl.MaxSyms, 600, 1<<20, 3+1<<32)
}

// noTableCounts are no numbers of tables.
func noTableCounts() []int {
	return append(badNumbers(), 0, -2, -impl.MaxTables, impl.MaxTables+1, impl.MaxTables+2, 2*impl.MaxTables, 256, 600, 2+1<<32)
}

// chooses requires the tables of the document's steps, and what holds for them in any case.
func chooses(t *testing.T, syms []int, n int, k int) {
	t.Helper()
	tables, sels := impl.Choose(syms, n, k)
	lists, want := chosenBy(stepsOfChoose(), syms, n, k)
	if !slices.Equal(sels, want) || !slices.EqualFunc(lensIn(tables), lists, slices.Equal) {
		t.Fatalf("%d symbols %v of %d, %d tables: %v and %v, not %v and %v", len(syms), start(syms), n, k, lensIn(tables), sels, lists, want)
	}
	if !impl.TablesOk(tables, n) || len(tables) != k || len(sels) != impl.Groups(len(syms)) || len(sels) > 0 && (slices.Min(sels) < 0 || slices.Max(sels) >= k) {
		t.Fatalf("%d symbols %v of %d, %d tables: %v and %v", len(syms), start(syms), n, k, lensIn(tables), sels)
	}
}

func refusedChoose(t *testing.T, syms []int, n int, k int) {
	t.Helper()
	if tables, sels := impl.Choose(syms, n, k); len(tables) != 0 || len(sels) != 0 {
		t.Errorf("%d symbols %v of %d, %d tables: %d tables and %v", len(syms), start(syms), n, k, len(tables), start(sels))
	}
}

// writesSels requires the bits of the indices.
func writesSels(t *testing.T, sels []int, k int) {
	t.Helper()
	b, ok := impl.PutSels(sels, k)
	if want := selsText(sels); !ok || textOf(t, b) != want {
		t.Fatalf("%d indices %v of %d: %s, %v, not %s", len(sels), start(sels), k, textOf(t, b), ok, want)
	}
}

func refusedPutSels(t *testing.T, sels []int, k int) {
	t.Helper()
	if b, ok := impl.PutSels(sels, k); ok || b != (impl.Bits{}) {
		t.Errorf("%d indices %v of %d: %d bits, %v", len(sels), start(sels), k, b.N, ok)
	}
}

// gotSels requires that r has these indices, up to bit number end.
func gotSels(t *testing.T, r impl.Rd, k int, sels []int, end int) {
	t.Helper()
	got, next, ok := impl.GetSels(r, len(sels), k)
	if !ok || !slices.Equal(got, sels) || next != (impl.Rd{Src: r.Src, At: end}) {
		t.Fatalf("%d of %d from bit %d of %d bytes: %v up to bit %d, %v, not %v up to bit %d", len(sels), k, r.At, len(r.Src), start(got), next.At, ok, start(sels), end)
	}
}

func refusedGetSels(t *testing.T, r impl.Rd, count int, k int) {
	t.Helper()
	if sels, next, ok := impl.GetSels(r, count, k); ok || len(sels) != 0 || next != (impl.Rd{}) {
		t.Errorf("%d of %d from bit %d of %d bytes: %v, %v, %v", count, k, r.At, len(r.Src), start(sels), next.At, ok)
	}
}

// readAsSels requires the indices that the text has, or that it is refused.
func readAsSels(t *testing.T, text string, count int, k int) bool {
	t.Helper()
	r := readerOfExactly(text)
	sels, used, ok := selsOfText(text, count, k)
	if ok {
		gotSels(t, r, k, sels, r.At+used)
	} else {
		refusedGetSels(t, r, count, k)
	}
	return ok
}

// writesCoded requires the bits of the symbols and their number, and returns the text.
func writesCoded(t *testing.T, syms []int, lists [][]int, sels []int) string {
	t.Helper()
	want := codedText(syms, lists, sels)
	b, ok := impl.PutCoded(syms, tablesOf(lists...), sels)
	if !ok || textOf(t, b) != want {
		t.Fatalf("%d symbols %v, %d tables, %d groups: %d bits, %v, not %d bits", len(syms), start(syms), len(lists), len(sels), b.N, ok, len(want))
	}
	if n := impl.CodedBits(syms, tablesOf(lists...), sels); n != len(want) {
		t.Fatalf("%d symbols %v, %d tables, %d groups: %d bits, not %d", len(syms), start(syms), len(lists), len(sels), n, len(want))
	}
	return want
}

func refusedPutCoded(t *testing.T, syms []int, tables []impl.Table, sels []int) {
	t.Helper()
	if b, ok := impl.PutCoded(syms, tables, sels); ok || b != (impl.Bits{}) {
		t.Errorf("PutCoded of %d symbols %v, %d tables, %d groups %v: %d bits, %v", len(syms), start(syms), len(tables), len(sels), start(sels), b.N, ok)
	}
	if n := impl.CodedBits(syms, tables, sels); n != -1 {
		t.Errorf("CodedBits of %d symbols %v, %d tables, %d groups %v: %d", len(syms), start(syms), len(tables), len(sels), start(sels), n)
	}
}

// gotCoded requires that r has these symbols, the last one of which is the end, up to bit number end.
func gotCoded(t *testing.T, r impl.Rd, tables []impl.Table, sels []int, syms []int, end int) {
	t.Helper()
	got, next, ok := impl.GetCoded(r, tables, sels, syms[len(syms)-1])
	if !ok || !slices.Equal(got, syms) || next != (impl.Rd{Src: r.Src, At: end}) {
		t.Fatalf("%d groups from bit %d of %d bytes: %d symbols %v up to bit %d, %v, not %d symbols %v up to bit %d", len(sels), r.At, len(r.Src), len(got), start(got), next.At, ok, len(syms), start(syms), end)
	}
}

func refusedGetCoded(t *testing.T, r impl.Rd, tables []impl.Table, sels []int, end int) {
	t.Helper()
	if syms, next, ok := impl.GetCoded(r, tables, sels, end); ok || len(syms) != 0 || next != (impl.Rd{}) {
		t.Errorf("%d groups %v up to %d from bit %d of %d bytes: %d symbols %v, %d, %v", len(sels), start(sels), end, r.At, len(r.Src), len(syms), start(syms), next.At, ok)
	}
}

// readAsCoded requires the symbols that the text has, or that it is refused.
func readAsCoded(t *testing.T, text string, lists [][]int, codes [][]string, sels []int, end int) bool {
	t.Helper()
	r := readerOfExactly(text)
	syms, used, ok := codedOfText(text, codes, sels, end)
	if ok {
		gotCoded(t, r, tablesOf(lists...), sels, syms, r.At+used)
	} else {
		refusedGetCoded(t, r, tablesOf(lists...), sels, end)
	}
	return ok
}

// codedLists are the lengths of one to MaxTables tables, complete and not, for one alphabet each.
func codedLists() [][][]int {
	nine, last := slices.Repeat([]int{9}, impl.MaxSyms), slices.Repeat([]int{20}, impl.MaxSyms)
	skew := slices.Repeat([]int{10}, impl.MaxSyms)
	skew[impl.MaxSyms-1], skew[0] = 1, 3
	return [][][]int{
		{{1}}, {{20}}, {{1}, {2}}, {{1}, {1}, {20}, {3}}, {{1, 1}}, {{1, 2}, {2, 1}}, {{20, 20}, {1, 1}, {1, 20}},
		{{1, 2, 2}}, {{1, 2, 2}, {2, 2, 1}}, {{1, 2, 2}, {2, 1, 2}, {2, 2, 1}}, {{1, 2, 2}, {1, 2, 2}, {2, 2, 2}, {20, 1, 20}},
		{{2, 3, 3, 1}, {2, 2, 2, 2}}, {{1, 3, 3, 3, 3}, {2, 3, 3, 2, 3}, {5, 4, 3, 2, 1}, {3, 3, 3, 3, 3}},
		{nine}, {last}, {nine, skew}, {last, nine, skew, nine},
	}
}

// someSels has count indices below k, each of which comes several times in a row.
func someSels(source *rand.Rand, count int, k int) []int {
	return localSymbols(source, count, k)
}

// endedSymbols has size symbols below n, the last of which, and no other one, is the last of the alphabet.
func endedSymbols(source *rand.Rand, size int, n int) []int {
	syms := make([]int, size)
	for i := range syms[:size-1] {
		syms[i] = source.Intn(n - 1)
	}
	syms[size-1] = n - 1
	return syms
}

func TestTablesExamples(t *testing.T) {
	if b, ok := impl.PutSels([]int{0, 1}, 2); !ok || b != (impl.Bits{Data: "\x40", N: 3}) {
		t.Error("PutSels", b, ok)
	}
	gotSels(t, impl.Rd{Src: "\x40"}, 2, []int{0, 1}, 3)
	one := []impl.Table{{Lens: []int{1, 2, 2}}}
	if b, ok := impl.PutCoded([]int{0, 2}, one, []int{0}); !ok || b != (impl.Bits{Data: "\x60", N: 3}) {
		t.Error("PutCoded", b, ok)
	}
	if n := impl.CodedBits([]int{0, 2}, one, []int{0}); n != 3 {
		t.Error("CodedBits", n)
	}
	gotCoded(t, impl.Rd{Src: "\x60"}, one, []int{0}, []int{0, 2}, 3)
}

func TestTablesConstants(t *testing.T) {
	if impl.Group != 10 || impl.MaxTables != 4 {
		t.Error(impl.Group, impl.MaxTables)
	}
}

func TestGroups(t *testing.T) {
	for n := range impl.MaxRow + 1 {
		if got, want := impl.Groups(n), len(groupsIn(make([]int, n))); got != want {
			t.Errorf("%d: %d, not %d", n, got, want)
		}
	}
	for n, want := range map[int]int{0: 0, 1: 1, 9: 1, 10: 1, 11: 2, 20: 2, 21: 3, 1990: 199, 1991: 200, 1999: 200, 2000: 200} {
		if got := impl.Groups(n); got != want {
			t.Errorf("%d: %d, not %d", n, got, want)
		}
	}
	for _, n := range append(badNumbers(), -2, -10, -11, impl.MaxRow+1, impl.MaxRow+2, 2*impl.MaxRow, 10+1<<32) {
		if got := impl.Groups(n); got != -1 {
			t.Errorf("%d: %d", n, got)
		}
	}
}

// TestChooseByHand has tables that were chosen on paper.
func TestChooseByHand(t *testing.T) {
	for _, c := range []struct {
		groups string
		n      int
		lists  [][]int
		sels   []int
	}{
		// No symbols: every symbol of every table has the weight 1.
		{"", 1, [][]int{{1}}, nil},
		{"", 2, [][]int{{1, 1}, {1, 1}, {1, 1}}, nil},
		{"", 3, [][]int{{2, 2, 1}, {2, 2, 1}, {2, 2, 1}, {2, 2, 1}}, nil},
		// One group, which the first table gets.
		{"0", 3, [][]int{{2, 2, 1}}, []int{0}},
		{"000000000", 3, [][]int{{1, 2, 2}, {2, 2, 1}}, []int{0}},
		{"0000000000", 3, [][]int{{1, 2, 2}, {2, 2, 1}, {2, 2, 1}, {2, 2, 1}}, []int{0}},
		{"2222222222", 3, [][]int{{2, 2, 1}, {2, 2, 1}}, []int{0}},
		// One symbol more, which needs 2 bits with the first table and 1 with the second.
		{"0000000000 2", 3, [][]int{{1, 2, 2}, {2, 2, 1}}, []int{0, 1}},
		{"0000000000 1", 3, [][]int{{1, 2, 2}, {2, 2, 1}}, []int{0, 0}},
		// One table has all groups.
		{"0000000000 1111111111 1", 3, [][]int{{2, 1, 2}}, []int{0, 0, 0}},
		// Groups that are alike need equally few bits with both tables, and the second one is left without a group.
		{"0000000000 0000000000", 3, [][]int{{1, 2, 2}, {2, 2, 1}}, []int{0, 0}},
		{"0000000000 0000000000", 1, [][]int{{1}, {1}}, []int{0, 0}},
		{"1111111111 0000000000", 2, [][]int{{1, 1}, {1, 1}}, []int{0, 0}},
		// Fewer groups than tables: 0 and 2 of four, 0 and 1 of three, 0 to 2 of four.
		{"0000000000 1111111111", 3, [][]int{{1, 2, 2}, {2, 2, 1}, {2, 1, 2}, {2, 2, 1}}, []int{0, 2}},
		{"0000000000 1111111111", 3, [][]int{{1, 2, 2}, {2, 1, 2}, {2, 2, 1}}, []int{0, 1}},
		{"0000000000 1111111111 2222222222", 3, [][]int{{1, 2, 2}, {2, 1, 2}, {2, 2, 1}, {2, 2, 1}}, []int{0, 1, 2}},
		// A table for each group.
		{"0000000000 1111111111 2222222222 3333333333", 4, [][]int{{1, 3, 3, 2}, {3, 1, 3, 2}, {3, 3, 1, 2}, {3, 3, 2, 1}}, []int{0, 1, 2, 3}},
		// Three groups for two tables: 0 0 1. The middle one needs 15 bits with both tables.
		{"0000000111 2222211111 2222222222", 3, [][]int{{2, 1, 2}, {2, 2, 1}}, []int{0, 0, 1}},
		// Four groups for three tables: 0 0 1 2.
		{"2222222222 2222222111 1111111110 0000000111", 3, [][]int{{2, 2, 1}, {2, 1, 2}, {1, 2, 2}}, []int{0, 0, 1, 2}},
		// All are assigned to table 0, and then the last one to table 1, which has no group then. A third round would assign the first one to it, too.
		{"1111111000 0000022222 0000000000 1111111112", 3, [][]int{{1, 2, 2}, {2, 1, 2}}, []int{0, 0, 0, 1}},
		// 0 0 1 2, then 0 0 1 1, then 0 2 1 1. Table 0 is another one for the first group alone, and a third round would assign all but one to it.
		{"1111100000 2222222000 1111111112 1111111222", 3, [][]int{{2, 1, 2}, {2, 1, 2}, {2, 2, 1}}, []int{0, 2, 1, 1}},
	} {
		k := len(c.lists)
		tables, sels := impl.Choose(symbolsIn(c.groups), c.n, k)
		if !slices.Equal(sels, c.sels) || !slices.EqualFunc(lensIn(tables), c.lists, slices.Equal) {
			t.Errorf("%q of %d: %v and %v, not %v and %v", c.groups, c.n, lensIn(tables), sels, c.lists, c.sels)
		}
		chooses(t, symbolsIn(c.groups), c.n, k)
	}
}

// TestChooseSteps also requires of the sequences that every other way to choose would show.
func TestChooseSteps(t *testing.T) {
	others := otherSteps()
	shown := map[string]int{}
	source := rand.New(rand.NewSource(111))
	for i := range 1200 {
		n, k := 1+source.Intn(6), 1+i%impl.MaxTables
		syms := groupedSymbols(source, source.Intn(90), n)
		if i%3 > 0 {
			n = 3 + source.Intn(3)
			syms = pairedSymbols(source, 3+source.Intn(5), n)
		}
		chooses(t, syms, n, k)
		lists, sels := chosenBy(stepsOfChoose(), syms, n, k)
		for name, s := range others {
			otherLists, otherSels := chosenBy(s, syms, n, k)
			if !slices.Equal(sels, otherSels) || !slices.EqualFunc(lists, otherLists, slices.Equal) {
				shown[name]++
			}
		}
	}
	for name := range others {
		if shown[name] < 5 {
			t.Errorf("%s: %d of the sequences show it", name, shown[name])
		}
	}
}

func TestChoose(t *testing.T) {
	for _, n := range alphabetSizes() {
		for i, syms := range sequences(n) {
			if len(syms) > 70 || n > 12 {
				chooses(t, syms, n, impl.MaxTables-i%impl.MaxTables)
				continue
			}
			for k := 1; k <= impl.MaxTables; k++ {
				chooses(t, syms, n, k)
			}
		}
	}
}

// TestChooseEachLength has every number of symbols up to some groups, and every number of groups.
func TestChooseEachLength(t *testing.T) {
	source := rand.New(rand.NewSource(112))
	for size := range 8*impl.Group + 1 {
		for k := 1; k <= impl.MaxTables; k++ {
			chooses(t, groupedSymbols(source, size, 4), 4, k)
		}
	}
	for g := range impl.MaxRow/impl.Group + 1 {
		chooses(t, groupedSymbols(source, g*impl.Group, 5), 5, 1+g%3)
		chooses(t, groupedSymbols(source, g*impl.Group, 5), 5, impl.MaxTables)
	}
}

// TestChooseOneTable has the code of all symbols together.
func TestChooseOneTable(t *testing.T) {
	for _, n := range alphabetSizes() {
		for _, syms := range sequences(n) {
			f := make([]int, n)
			for _, x := range syms {
				f[x]++
			}
			l := lensFor(t, f, impl.MaxLen)
			tables, sels := impl.Choose(syms, n, 1)
			if len(tables) != 1 || !slices.Equal(tables[0].Lens, l) || !slices.Equal(sels, make([]int, (len(syms)+9)/10)) {
				t.Errorf("%d symbols %v of %d: %v and %v", len(syms), start(syms), n, lensIn(tables), start(sels))
			}
			if bits, want := impl.CodedBits(syms, tables, sels), impl.CostOf(f, l); bits != want {
				t.Errorf("%d symbols %v of %d: %d bits, not %d", len(syms), start(syms), n, bits, want)
			}
		}
	}
}

func TestChooseRefuses(t *testing.T) {
	for _, syms := range [][]int{nil, {0}, make([]int, 10), make([]int, impl.MaxRow)} {
		for _, n := range noAlphabetSizes() {
			for k := 1; k <= impl.MaxTables; k++ {
				refusedChoose(t, syms, n, k)
			}
		}
		for _, n := range alphabetSizes() {
			for _, k := range noTableCounts() {
				refusedChoose(t, syms, n, k)
			}
		}
	}
	for _, n := range alphabetSizes() {
		for k := 1; k <= impl.MaxTables; k++ {
			for _, size := range []int{impl.MaxRow + 1, impl.MaxRow + 2, impl.MaxRow + 10, 2 * impl.MaxRow, 100000} {
				refusedChoose(t, make([]int, size), n, k)
			}
			for _, bad := range append(badNumbers(), n, n+1, -2, -n, impl.MaxSyms, impl.MaxSyms+1, n+1<<32) {
				refusedChoose(t, []int{bad}, n, k)
				for _, place := range []int{0, 5, 9, 10, 19, 20} {
					syms := make([]int, 21)
					syms[place] = bad
					refusedChoose(t, syms, n, k)
				}
				syms := make([]int, impl.MaxRow)
				syms[impl.MaxRow-1] = bad
				refusedChoose(t, syms, n, k)
			}
		}
	}
}

func TestTablesOk(t *testing.T) {
	for _, l := range append(someLens(), smallLens()...) {
		for k := 1; k <= impl.MaxTables; k++ {
			tables := tablesOf(slices.Repeat([][]int{l}, k)...)
			if !impl.TablesOk(tables, len(l)) {
				t.Errorf("%d tables %v", k, l)
			}
			for _, n := range append(noAlphabetSizes(), len(l)-1, len(l)+1, 2*len(l), k*len(l)+1) {
				if impl.TablesOk(tables, n) {
					t.Errorf("%d tables %v of %d", k, l, n)
				}
			}
		}
		for _, k := range []int{0, impl.MaxTables + 1, impl.MaxTables + 2, 100} {
			if impl.TablesOk(tablesOf(slices.Repeat([][]int{l}, k)...), len(l)) {
				t.Errorf("%d tables %v", k, l)
			}
		}
	}
	for _, n := range []int{0, 1, 3, -1} {
		if impl.TablesOk(nil, n) || impl.TablesOk([]impl.Table{}, n) || impl.TablesOk([]impl.Table{{}}, n) {
			t.Errorf("nothing is accepted as tables of %d", n)
		}
	}
	for _, lists := range codedLists() {
		if n := len(lists[0]); !impl.TablesOk(tablesOf(lists...), n) || impl.TablesOk(tablesOf(lists...), n+1) {
			t.Errorf("%v of %d", lists, n)
		}
	}
}

// spoiltTables has one table among good ones that is not valid, at each place.
func spoiltTables() [][]impl.Table {
	var all [][]impl.Table
	good := []int{1, 2, 2}
	bad := append(invalidLens(), crowdedLens()...)
	bad = append(bad, []int{1}, []int{1, 2}, []int{1, 2, 3, 3}, []int{0, 2, 2}, []int{1, 2, 21}, []int{1, 1, 2}, []int{-1, 2, 2})
	for _, l := range bad {
		for k := 1; k <= impl.MaxTables; k++ {
			for place := range k {
				lists := slices.Repeat([][]int{good}, k)
				lists[place] = l
				if k > 1 || !impl.LensOk(l) {
					all = append(all, tablesOf(lists...))
				}
			}
		}
	}
	for _, k := range []int{0, impl.MaxTables + 1, impl.MaxTables + 2, 50} {
		all = append(all, tablesOf(slices.Repeat([][]int{good}, k)...))
	}
	return all
}

func TestTablesOkSpoilt(t *testing.T) {
	for _, tables := range spoiltTables() {
		for _, n := range []int{3, 2, 4, 0} {
			if impl.TablesOk(tables, n) {
				t.Errorf("%d tables %v of %d", len(tables), start(tables[0].Lens), n)
			}
		}
		if len(tables) > 0 && impl.TablesOk(tables, len(tables[0].Lens)) {
			t.Errorf("%d tables %v", len(tables), start(tables[0].Lens))
		}
	}
}

// TestPutSels has all lists of a few indices, and longer ones.
func TestPutSels(t *testing.T) {
	for k := 1; k <= impl.MaxTables; k++ {
		for _, sels := range append(allLists(k, 5), rankLists(k)...) {
			writesSels(t, sels, k)
		}
	}
	// What no list with fewer tables needs is allowed nevertheless.
	for _, sels := range allLists(2, 6) {
		for k := 2; k <= impl.MaxTables; k++ {
			writesSels(t, sels, k)
		}
	}
}

func TestPutSelsByHand(t *testing.T) {
	for _, c := range []struct {
		sels []int
		k    int
		text string
	}{
		{nil, 1, ""},
		{nil, 4, ""},
		{[]int{0}, 1, "0"},
		{[]int{0, 0, 0}, 1, "000"},
		{[]int{1}, 2, "10"},
		{[]int{3}, 4, "1110"},
		{[]int{3, 2, 1, 0}, 4, "1110111011101110"},
		{[]int{0, 1, 2, 3}, 4, "0101101110"},
		{[]int{2, 2, 0, 2, 1}, 3, "1100" + "10" + "10" + "110"},
		{[]int{2, 2, 0, 2, 1}, 4, "1100" + "10" + "10" + "110"},
	} {
		b, ok := impl.PutSels(c.sels, c.k)
		if got := textOf(t, b); !ok || got != c.text {
			t.Errorf("%v of %d: %s, %v, not %s", c.sels, c.k, got, ok, c.text)
		}
		r := readerOfExactly(c.text)
		gotSels(t, r, c.k, c.sels, r.At+len(c.text))
	}
}

func TestPutSelsRefuses(t *testing.T) {
	for _, k := range noTableCounts() {
		for _, sels := range [][]int{nil, {}, {0}, {0, 0}, make([]int, impl.MaxBlock)} {
			refusedPutSels(t, sels, k)
		}
		// RanksOk accepts these.
		if k > impl.MaxTables && k <= 256 {
			refusedPutSels(t, []int{k - 1}, k)
			refusedPutSels(t, ascendingTo(k), k)
		}
	}
	for k := 1; k <= impl.MaxTables; k++ {
		for _, sels := range invalidFor(k) {
			refusedPutSels(t, sels, k)
		}
	}
}

// TestGetSelsInverse reads what was written, at every bit of a byte, with different bits behind it.
func TestGetSelsInverse(t *testing.T) {
	for k := 1; k <= impl.MaxTables; k++ {
		for i, sels := range append(allLists(k, 4), rankLists(k)...) {
			b, ok := impl.PutSels(sels, k)
			text := textOf(t, b)
			if !ok {
				t.Fatalf("%d indices %v of %d", len(sels), start(sels), k)
			}
			for _, behind := range []string{"", "0", "1", "10110", strings.Repeat("1", 40)} {
				at := (i + len(behind)) % 9
				r, end := readerAt(at, text, '1')
				r.Src += behind
				gotSels(t, r, k, sels, end)
				r = readerOfExactly(text + behind)
				gotSels(t, r, k, sels, r.At+len(text))
			}
		}
	}
}

// TestGetSelsNone reads nothing, wherever the reader stands.
func TestGetSelsNone(t *testing.T) {
	for k := 1; k <= impl.MaxTables; k++ {
		for _, r := range []impl.Rd{{}, {Src: "\xff"}, {Src: "\xff", At: 3}, {Src: "\xff", At: 8}} {
			gotSels(t, r, k, nil, r.At)
		}
		for _, r := range invalidReaders() {
			refusedGetSels(t, r, 0, k)
		}
	}
}

// TestGetSelsEnds has every part of the bits that ends before the last of them.
func TestGetSelsEnds(t *testing.T) {
	for k := 1; k <= impl.MaxTables; k++ {
		for _, sels := range append(allLists(k, 3), localSymbols(rand.New(rand.NewSource(113)), 30, k), descendingFrom(k)) {
			text := selsText(sels)
			for n := range len(text) {
				refusedGetSels(t, readerOfExactly(text[:n]), len(sels), k)
			}
		}
	}
}

// TestGetSelsTooMany has as many 1 bits as there are tables, and more.
func TestGetSelsTooMany(t *testing.T) {
	for k := 1; k <= impl.MaxTables; k++ {
		for _, ones := range []int{k, k + 1, k + 2, 8, 32, 33, 64, 65, 256} {
			many := strings.Repeat("1", ones) + "0"
			zeros := strings.Repeat("0", 20)
			refusedGetSels(t, readerOfExactly(many), 1, k)
			refusedGetSels(t, readerOfExactly(many+zeros), 1, k)
			refusedGetSels(t, readerOfExactly("000"+many), 4, k)
			refusedGetSels(t, readerOfExactly("0"+many+zeros), 3, k)
			// It is not reached here.
			r := readerOfExactly("000" + many)
			gotSels(t, r, k, []int{0, 0, 0}, r.At+3)
		}
	}
}

// TestGetSelsAnyBits reads all texts of up to ten bits.
func TestGetSelsAnyBits(t *testing.T) {
	for k := 1; k <= impl.MaxTables; k++ {
		for size := range 11 {
			for v := range 1 << size {
				text := textOfNumber(v, size)
				for count := range 5 {
					readAsSels(t, text, count, k)
				}
			}
		}
	}
}

// TestGetSelsLongerBits reads bits of which fewer are 1, so that some are indices.
func TestGetSelsLongerBits(t *testing.T) {
	source := rand.New(rand.NewSource(114))
	read := 0
	for range 2000 {
		k := 1 + source.Intn(impl.MaxTables)
		text := make([]byte, source.Intn(900))
		for i := range text {
			text[i] = '0'
			if source.Intn(3*k) < k-1 {
				text[i] = '1'
			}
		}
		if readAsSels(t, string(text), source.Intn(min(len(text)+1, impl.MaxBlock+1)), k) {
			read++
		}
	}
	if read < 300 || read > 1700 {
		t.Errorf("%d of 2000 are read", read)
	}
}

// TestGetSelsCount has as many indices as are allowed, and one more.
func TestGetSelsCount(t *testing.T) {
	for k := 1; k <= impl.MaxTables; k++ {
		for _, x := range []int{0, k - 1} {
			sels := slices.Repeat([]int{x, 0}, impl.MaxBlock/2+1)
			full := sels[:impl.MaxBlock]
			text := selsText(full)
			r := readerOfExactly(selsText(sels) + "0000")
			writesSels(t, full, k)
			gotSels(t, r, k, full, r.At+len(text))
			gotSels(t, readerOfExactly(text), k, full, 8*len(readerOfExactly(text).Src))
			for _, count := range append(badNumbers(), -2, impl.MaxBlock+1, impl.MaxBlock+2, 2*impl.MaxBlock, 1<<32+1) {
				refusedGetSels(t, r, count, k)
				refusedGetSels(t, impl.Rd{Src: strings.Repeat("\x00", 300)}, count, k)
				refusedGetSels(t, impl.Rd{}, count, k)
			}
			refusedPutSels(t, sels[:impl.MaxBlock+1], k)
		}
	}
}

func TestGetSelsRefuses(t *testing.T) {
	zeros := impl.Rd{Src: strings.Repeat("\x00", 300)}
	for _, k := range noTableCounts() {
		for _, count := range []int{0, 1, 2, impl.MaxBlock} {
			refusedGetSels(t, zeros, count, k)
			refusedGetSels(t, impl.Rd{Src: "\xaa\xaa"}, count, k)
			refusedGetSels(t, impl.Rd{}, count, k)
		}
	}
	for k := 1; k <= impl.MaxTables; k++ {
		for _, r := range invalidReaders() {
			for _, count := range []int{-1, 0, 1, impl.MaxBlock, impl.MaxBlock + 1} {
				refusedGetSels(t, r, count, k)
			}
		}
		refusedGetSels(t, impl.Rd{}, 1, k)
		refusedGetSels(t, impl.Rd{Src: "\x00", At: 8}, 1, k)
	}
}

// TestPutCoded has sequences of every length up to some groups, with indices in any order.
func TestPutCoded(t *testing.T) {
	source := rand.New(rand.NewSource(115))
	for _, lists := range codedLists() {
		n := len(lists[0])
		for size := range 4*impl.Group + 2 {
			sels := someSels(source, (size+9)/10, len(lists))
			writesCoded(t, someSymbols(size, n), lists, sels)
		}
		for _, size := range []int{599, 1001, impl.MaxRow - 1, impl.MaxRow} {
			sels := someSels(source, (size+9)/10, len(lists))
			writesCoded(t, someSymbols(size, n), lists, sels)
		}
	}
}

func TestPutCodedByHand(t *testing.T) {
	first, second := []int{1, 2, 2}, []int{2, 2, 1}
	for _, c := range []struct {
		groups string
		lists  [][]int
		sels   []int
		text   string
	}{
		{"", [][]int{first}, nil, ""},
		{"", [][]int{first, second}, nil, ""},
		{"012", [][]int{first}, []int{0}, "01011"},
		{"012", [][]int{first, second}, []int{1}, "10110"},
		{"012", [][]int{second, first}, []int{1}, "01011"},
		{"0000000001 12", [][]int{first, second}, []int{0, 1}, "000000000" + "10" + "11" + "0"},
		{"0000000001 12", [][]int{first, second}, []int{1, 0}, "101010101010101010" + "11" + "10" + "11"},
		{"2222222222 2", [][]int{first, second}, []int{1, 1}, "00000000000"},
		{"2222222222 2", [][]int{first, second}, []int{1, 0}, "000000000011"},
		{"000", [][]int{{3}}, []int{0}, "000000000"},
	} {
		if got := writesCoded(t, symbolsIn(c.groups), c.lists, c.sels); got != c.text {
			t.Errorf("%s with %v: %s, not %s", c.groups, c.sels, got, c.text)
		}
	}
}

// TestPutCodedLongest has MaxRow symbols of the longest codes.
func TestPutCodedLongest(t *testing.T) {
	for _, n := range []int{1, 3, impl.MaxSyms} {
		long := slices.Repeat([]int{impl.MaxLen}, n)
		for _, lists := range [][][]int{{long}, {long, long, long, long}} {
			sels := someSymbols(200, len(lists))
			if text := writesCoded(t, someSymbols(impl.MaxRow, n), lists, sels); len(text) != impl.MaxRow*impl.MaxLen {
				t.Error(len(text))
			}
			refusedPutCoded(t, make([]int, impl.MaxRow+1), tablesOf(lists...), make([]int, 201))
			refusedPutCoded(t, make([]int, impl.MaxRow+1), tablesOf(lists...), sels)
		}
	}
}

// TestPutCodedRefuses spoils symbols and indices, one at a time.
func TestPutCodedRefuses(t *testing.T) {
	for _, lists := range codedLists() {
		n, k := len(lists[0]), len(lists)
		tables := tablesOf(lists...)
		for _, size := range []int{1, 10, 11, 35} {
			groups := (size + 9) / 10
			for _, bad := range append(badNumbers(), n, n+1, -2, -n, impl.MaxSyms, impl.MaxSyms+1, n+1<<32) {
				for _, place := range []int{0, size / 2, size - 1} {
					syms := make([]int, size)
					syms[place] = bad
					refusedPutCoded(t, syms, tables, make([]int, groups))
				}
			}
			for _, bad := range append(badNumbers(), k, k+1, -2, -k, impl.MaxTables, 256, k+1<<32) {
				for _, place := range []int{0, groups / 2, groups - 1} {
					sels := make([]int, groups)
					sels[place] = bad
					refusedPutCoded(t, make([]int, size), tables, sels)
				}
			}
			for _, wrong := range []int{0, groups - 1, groups + 1, groups + 2, 2 * groups, size + 10, 200, 201, 600, 601} {
				if wrong != groups {
					refusedPutCoded(t, make([]int, size), tables, make([]int, wrong))
				}
			}
		}
		for _, wrong := range []int{1, 2, 200, 600} {
			refusedPutCoded(t, nil, tables, make([]int, wrong))
		}
		for _, size := range []int{impl.MaxRow + 1, impl.MaxRow + 10, 2 * impl.MaxRow, 6000, 6001} {
			refusedPutCoded(t, make([]int, size), tables, make([]int, (size+9)/10))
			refusedPutCoded(t, make([]int, size), tables, make([]int, 200))
		}
	}
}

func TestCodedRefusesTables(t *testing.T) {
	for _, tables := range append(spoiltTables(), nil, []impl.Table{{}}, []impl.Table{{}, {}}) {
		for _, size := range []int{0, 1, 3, 11} {
			refusedPutCoded(t, make([]int, size), tables, make([]int, (size+9)/10))
		}
		for _, sels := range [][]int{nil, {0}, {0, 0}} {
			for _, end := range []int{0, 2, -1, 3} {
				refusedGetCoded(t, impl.Rd{Src: "\x00\x00\x00\x00"}, tables, sels, end)
				refusedGetCoded(t, impl.Rd{Src: "\x60\xff\xff\xff"}, tables, sels, end)
			}
		}
	}
}

// TestGetCodedInverse reads what was written, at every bit of a byte, with different bits behind it.
func TestGetCodedInverse(t *testing.T) {
	source := rand.New(rand.NewSource(116))
	for _, lists := range codedLists() {
		n := len(lists[0])
		tables := tablesOf(lists...)
		for _, size := range []int{1, 2, 9, 10, 11, 12, 19, 20, 21, 30, 31, 57, 100, 101} {
			if n == 1 {
				size = 1
			}
			syms := endedSymbols(source, size, n)
			sels := someSels(source, (size+9)/10, len(lists))
			b, ok := impl.PutCoded(syms, tables, sels)
			text := textOf(t, b)
			if !ok {
				t.Fatalf("%d symbols %v", size, start(syms))
			}
			for at, behind := range []string{"", "0", "1", "10110", strings.Repeat("0", 33), strings.Repeat("1", 33), "000", "111", "01"} {
				r, end := readerAt(at, text, '1')
				gotCoded(t, r, tables, sels, syms, end)
				r = readerOfExactly(text + behind)
				gotCoded(t, r, tables, sels, syms, r.At+len(text))
			}
		}
	}
}

// TestGetCodedEnd has any symbol as the end, in each place of the last group, and in the groups before.
func TestGetCodedEnd(t *testing.T) {
	source := rand.New(rand.NewSource(117))
	for _, lists := range codedLists() {
		n, k := len(lists[0]), len(lists)
		tables := tablesOf(lists...)
		for size := 1; size <= 3*impl.Group+1; size++ {
			end := source.Intn(n)
			syms := make([]int, size+5)
			for i := range syms {
				syms[i] = (end + 1 + source.Intn(max(1, n-1))) % n
			}
			syms[size-1] = end
			if n == 1 {
				size = len(syms)
			}
			at := slices.Index(syms, end)
			sels := someSels(source, 6, k)
			text := codedText(syms, lists, sels)
			used := len(codedText(syms[:at+1], lists, sels))
			r := readerOfExactly(text)
			for groups := range len(sels) + 1 {
				if groups == at/impl.Group+1 {
					gotCoded(t, r, tables, sels[:groups], syms[:at+1], r.At+used)
				} else {
					refusedGetCoded(t, r, tables, sels[:groups], end)
				}
			}
		}
	}
}

// TestGetCodedByHand has the end alone, in the last place of a group, in the first of the next one, and too early or too late.
func TestGetCodedByHand(t *testing.T) {
	for _, c := range []struct {
		text   string
		groups int
		syms   string
	}{
		{"11", 1, "2"},
		{"1100", 1, "2"},
		{"11", 2, ""},
		{"11", 0, ""},
		{"", 0, ""},
		{"", 1, ""},
		{"0000000", 1, ""},
		{"1", 1, ""},
		{"01", 1, ""},
		{"011", 1, "02"},
		{"01011", 1, "012"},
		{"01011", 2, ""},
		{"00000000011", 1, "0000000002"},
		{"00000000011", 2, ""},
		{"000000000011", 1, ""},
		{"000000000011", 2, "00000000002"},
		{"000000000011", 3, ""},
		{"0000000000" + "0000000000" + "11", 2, ""},
		{"0000000000" + "0000000000" + "11", 3, "000000000000000000002"},
		{"0000000000" + "000000000" + "11", 2, "00000000000000000002"},
		{"00011" + "00000000000011", 1, "0002"},
		{"00011" + "00000000000011", 2, ""},
	} {
		one := tablesOf([]int{1, 2, 2})
		r := readerOfExactly(c.text)
		sels := make([]int, c.groups)
		if c.syms == "" {
			refusedGetCoded(t, r, one, sels, 2)
			continue
		}
		syms := symbolsIn(c.syms)
		gotCoded(t, r, one, sels, syms, r.At+len(codedText(syms, [][]int{{1, 2, 2}}, sels)))
	}
}

// TestGetCodedNoEnd has an end that is no symbol, or that does not come.
func TestGetCodedNoEnd(t *testing.T) {
	for _, lists := range codedLists() {
		n := len(lists[0])
		tables := tablesOf(lists...)
		for _, groups := range []int{0, 1, 2, 200, 201, 600} {
			sels := make([]int, groups)
			r := impl.Rd{Src: strings.Repeat("\x00", 8000)}
			for _, end := range append(badNumbers(), n, n+1, -2, -n, impl.MaxSyms, 1<<32, 1<<32+n-1) {
				refusedGetCoded(t, r, tables, sels, end)
				refusedGetCoded(t, impl.Rd{}, tables, sels, end)
			}
			// The bits are those of another symbol.
			if n > 1 {
				refusedGetCoded(t, r, tables, sels, orderOfSymbols(lists[0])[1])
			}
		}
	}
}

// TestGetCodedEnds has every part of the bits that ends before the last of them.
func TestGetCodedEnds(t *testing.T) {
	source := rand.New(rand.NewSource(118))
	for _, lists := range codedLists() {
		n := len(lists[0])
		for _, size := range []int{1, 2, 10, 11, 23} {
			if n == 1 {
				size = 1
			}
			syms := endedSymbols(source, size, n)
			sels := someSels(source, (size+9)/10, len(lists))
			text := codedText(syms, lists, sels)
			for bits := range len(text) {
				refusedGetCoded(t, readerOfExactly(text[:bits]), tablesOf(lists...), sels, n-1)
			}
		}
	}
}

// TestGetCodedNone has bits that are no code of the table of their group, though they are one of another table.
func TestGetCodedNone(t *testing.T) {
	lists := [][]int{{1, 3, 3}, {1, 2, 2}, {2, 2, 2}, {20, 20, 20}}
	tables := tablesOf(lists...)
	codes := textsOf(lists)
	for _, c := range []struct {
		sels []int
		text string
	}{
		{[]int{0}, "11"}, {[]int{0}, "1111"}, {[]int{0}, "0011111"}, {[]int{2}, "11"}, {[]int{2}, "000111"}, {[]int{3}, "1"}, {[]int{3}, strings.Repeat("0", 18) + "11"},
		{[]int{3}, strings.Repeat("1", 40)}, {[]int{1, 0}, "0000000000" + "11"}, {[]int{0, 2}, "0000000000" + "11"}, {[]int{2, 2}, "00000000000000000000" + "0111"},
	} {
		for _, behind := range []string{"", "0", "1", strings.Repeat("0", 50), strings.Repeat("1", 50)} {
			if readAsCoded(t, c.text+behind, lists, codes, c.sels, 2) {
				t.Errorf("%s with %v", c.text+behind, c.sels)
			}
		}
	}
	// The same bits are codes of another table.
	for _, c := range []struct {
		sels []int
		text string
		used int
	}{
		{[]int{1}, "11", 2}, {[]int{1, 1}, "0000000000" + "11", 12}, {[]int{0, 1}, "0000000000" + "11", 12}, {[]int{2}, "0010", 4}, {[]int{0}, "101", 3},
	} {
		syms, used, ok := codedOfText(c.text, codes, c.sels, 2)
		if !ok || used != c.used {
			t.Fatalf("%s with %v: %v", c.text, c.sels, syms)
		}
		r := readerOfExactly(c.text)
		gotCoded(t, r, tables, c.sels, syms, r.At+used)
	}
}

// TestGetCodedAnyBits reads all texts of up to nine bits.
func TestGetCodedAnyBits(t *testing.T) {
	for _, lists := range [][][]int{{{1}}, {{2}, {1}}, {{1, 1}, {1, 2}}, {{1, 2, 2}, {2, 1, 2}}, {{1, 3, 3}, {2, 2, 2}}, {{2, 3, 3, 1}, {2, 2, 2, 2}, {1, 2, 3, 3}}} {
		codes := textsOf(lists)
		for size := range 10 {
			for v := range 1 << size {
				text := textOfNumber(v, size)
				for end := range len(lists[0]) {
					for sel := range lists {
						readAsCoded(t, text, lists, codes, []int{sel}, end)
					}
				}
				readAsCoded(t, text, lists, codes, nil, 0)
			}
		}
	}
}

// TestGetCodedLongerBits reads any bits with some groups, several of which have their end in the last one.
func TestGetCodedLongerBits(t *testing.T) {
	source := rand.New(rand.NewSource(119))
	all := codedLists()
	read := 0
	for i := range 3000 {
		lists := all[i%len(all)]
		if len(lists[0]) == 1 || len(lists[0]) > 5 && i%8 > 0 {
			continue
		}
		text := make([]byte, source.Intn(120))
		for j := range text {
			text[j] = '0'
			if source.Intn(4) == 0 {
				text[j] = '1'
			}
		}
		sels := someSels(source, 1+source.Intn(4), len(lists))
		if readAsCoded(t, string(text), lists, textsOf(lists), sels, source.Intn(len(lists[0]))) {
			read++
		}
	}
	if read < 300 || read > 1500 {
		t.Errorf("%d are read", read)
	}
}

// TestGetCodedRow has the end as symbol number MaxRow and behind it, where another group would have it.
func TestGetCodedRow(t *testing.T) {
	for _, lists := range codedLists() {
		n, k := len(lists[0]), len(lists)
		if n == 1 {
			continue
		}
		tables := tablesOf(lists...)
		syms := make([]int, 6000)
		sels := slices.Repeat(ascendingTo(k), 600)[:600]
		for _, at := range []int{impl.MaxRow - 11, impl.MaxRow - 10, impl.MaxRow - 2, impl.MaxRow - 1, impl.MaxRow, impl.MaxRow + 1, impl.MaxRow + 9, impl.MaxRow + 10, 5999} {
			syms[at] = n - 1
			text := codedText(syms[:at+1], lists, sels)
			r, end := readerAt(at%8, text, '0')
			r.Src += "\x00\x00\x00"
			for _, groups := range []int{at/impl.Group - 1, at / impl.Group, at/impl.Group + 1, at/impl.Group + 2, 200, 201, 600} {
				if groups > 600 {
					continue
				}
				if at < impl.MaxRow && groups == at/impl.Group+1 {
					gotCoded(t, r, tables, sels[:groups], syms[:at+1], end)
				} else {
					refusedGetCoded(t, r, tables, sels[:groups], n-1)
				}
			}
			syms[at] = 0
		}
	}
}

// TestGetCodedRefuses has indices that name no table, too many of them, and readers that are not valid.
func TestGetCodedRefuses(t *testing.T) {
	for _, lists := range codedLists() {
		n, k := len(lists[0]), len(lists)
		tables := tablesOf(lists...)
		end := orderOfSymbols(lists[0])[0]
		zeros := impl.Rd{Src: strings.Repeat("\x00", 100)}
		gotCoded(t, zeros, tables, []int{0}, []int{end}, lists[0][end])
		for _, bad := range append(badNumbers(), k, k+1, -2, -k, impl.MaxTables, 256, k+1<<32) {
			refusedGetCoded(t, zeros, tables, []int{bad}, end)
			refusedGetCoded(t, zeros, tables, []int{0, bad}, end)
			refusedGetCoded(t, zeros, tables, []int{bad, 0}, end)
		}
		for _, count := range []int{0, 2, 200, 201, impl.MaxBlock, impl.MaxBlock + 1, 2 * impl.MaxBlock} {
			refusedGetCoded(t, zeros, tables, make([]int, count), end)
		}
		for _, r := range invalidReaders() {
			refusedGetCoded(t, r, tables, []int{0}, end)
			refusedGetCoded(t, r, tables, nil, end)
			refusedGetCoded(t, r, tables, []int{0}, n)
		}
		refusedGetCoded(t, impl.Rd{}, tables, []int{0}, end)
		refusedGetCoded(t, impl.Rd{Src: "\x00", At: 8}, tables, []int{0}, end)
	}
}

// TestTablesWhole writes tables, indices and symbols one behind the other, and reads them again.
func TestTablesWhole(t *testing.T) {
	source := rand.New(rand.NewSource(120))
	for i := range 300 {
		n := 2 + source.Intn(impl.MaxSyms-1)
		if i%3 > 0 {
			n = 2 + source.Intn(12)
		}
		k := 1 + i%impl.MaxTables
		syms := groupedSymbols(source, 1+source.Intn(impl.MaxBlock), n-1)
		syms = append(syms, n-1)
		tables, sels := impl.Choose(syms, n, k)
		b, ok := impl.PutSels(sels, k)
		for _, x := range tables {
			part, is := impl.PutLens(x.Lens)
			b, _ = impl.Join(b, part)
			ok = ok && is
		}
		coded, is := impl.PutCoded(syms, tables, sels)
		b, _ = impl.Join(b, coded)
		if !ok || !is || coded.N != impl.CodedBits(syms, tables, sels) {
			t.Fatalf("%d symbols of %d, %d tables: %d bits", len(syms), n, k, coded.N)
		}
		got, r, ok := impl.GetSels(impl.Rd{Src: b.Data}, len(sels), k)
		if !ok || !slices.Equal(got, sels) {
			t.Fatalf("%d symbols of %d, %d tables: %v, not %v", len(syms), n, k, got, sels)
		}
		read := make([]impl.Table, k)
		for j := range read {
			read[j].Lens, r, _ = impl.GetLens(r, n)
		}
		if !slices.EqualFunc(lensIn(read), lensIn(tables), slices.Equal) {
			t.Fatalf("%d symbols of %d, %d tables: %v", len(syms), n, k, lensIn(read))
		}
		gotCoded(t, r, read, got, syms, b.N)
	}
}

// TestTablesArguments passes parts of longer lists, all of which must stay as they were.
func TestTablesArguments(t *testing.T) {
	source := rand.New(rand.NewSource(121))
	for _, size := range []int{0, 1, 10, 25, 100} {
		for _, bad := range []int{0, -1, 7} {
			allSyms := append(groupedSymbols(source, size, 3), 2, 1, bad, -4)
			allSels := append(someSels(source, (size+9)/10, 2), 1, 0, bad, -5)
			first, second := []int{1, 2, 2, 9, -6}, []int{2, 2, 1, 8, -7}
			allTables := tablesOf(first[:3], second[:3], []int{3, 3})
			keptSyms, keptSels := slices.Clone(allSyms), slices.Clone(allSels)
			for _, extra := range []int{0, 1, 3} {
				syms, sels := allSyms[:size+extra], allSels[:(size+9)/10+extra]
				for _, tables := range [][]impl.Table{allTables[:1], allTables[:2], allTables} {
					impl.Choose(syms, 3, 2)
					impl.Choose(syms, 2, 4)
					impl.TablesOk(tables, 3)
					impl.PutSels(sels, 2)
					impl.PutSels(sels, 1)
					impl.PutCoded(syms, tables, sels)
					impl.CodedBits(syms, tables, sels)
					impl.GetCoded(impl.Rd{Src: "\x05\xc3\x00"}, tables, sels, 2)
					impl.GetCoded(impl.Rd{Src: "\x05\xc3\x00"}, tables, sels[:min(1, len(sels))], 1)
				}
			}
			if !slices.Equal(allSyms, keptSyms) || !slices.Equal(allSels, keptSels) {
				t.Errorf("%v is %v, %v is %v", start(keptSyms), start(allSyms), start(keptSels), start(allSels))
			}
			if !slices.Equal(first, []int{1, 2, 2, 9, -6}) || !slices.Equal(second, []int{2, 2, 1, 8, -7}) || len(allTables) != 3 || !slices.EqualFunc(lensIn(allTables), [][]int{{1, 2, 2}, {2, 2, 1}, {3, 3}}, slices.Equal) {
				t.Errorf("%v and %v are tables %v", first, second, lensIn(allTables))
			}
		}
	}
}

// spoil overwrites a list and what lies behind it.
func spoil(l []int) {
	full := l[:cap(l)]
	for i := range full {
		full[i] = -9
	}
}

// TestTablesKeepNothing spoils results in both orders, with what lies behind them, and repeats the calls with others in between.
func TestTablesKeepNothing(t *testing.T) {
	source := rand.New(rand.NewSource(122))
	for _, n := range []int{1, 2, 3, 26, impl.MaxSyms} {
		for _, size := range []int{1, 10, 35, 400, impl.MaxRow} {
			syms := groupedSymbols(source, size, n)
			given := slices.Clone(syms)
			lists, sels := chosenBy(stepsOfChoose(), syms, n, impl.MaxTables)
			want := append(slices.Clone(lists), sels)
			order := ascendingTo(len(want))
			for range 2 {
				slices.Reverse(order)
				tables, chosen := impl.Choose(given, n, impl.MaxTables)
				results := append(lensIn(tables), chosen)
				for at, i := range order {
					if !slices.Equal(results[i], want[i]) {
						t.Fatalf("result %d for %d symbols %v of %d: %v", i, size, start(syms), n, start(results[i]))
					}
					spoil(results[i])
					for _, j := range order[at+1:] {
						if !slices.Equal(results[j], want[j]) {
							t.Fatalf("result %d for %d symbols %v of %d changes result %d", i, size, start(syms), n, j)
						}
					}
				}
				impl.Choose([]int{0, 0, 0}, 1, 1)
				impl.Choose(someSymbols(300, 5), 5, 3)
				if !slices.Equal(given, syms) {
					t.Fatalf("%d symbols of %d: the argument is changed with a result", size, n)
				}
			}
		}
	}
}

// TestTablesReadersKeepNothing spoils what was read, and the arguments, and reads it again.
func TestTablesReadersKeepNothing(t *testing.T) {
	sels := []int{1, 0, 0, 2, 1}
	lists := [][]int{{1, 2, 2}, {2, 1, 2}, {2, 2, 1}}
	syms := append(slices.Repeat([]int{0, 1, 1}, 14), 2)
	sel, sym := readerOfExactly(selsText(sels)), readerOfExactly(codedText(syms, lists, sels))
	for range 3 {
		given, lens := slices.Clone(sels), [][]int{slices.Clone(lists[0]), slices.Clone(lists[1]), slices.Clone(lists[2])}
		got, _, _ := impl.GetSels(sel, 5, 3)
		read, _, _ := impl.GetCoded(sym, tablesOf(lens...), given, 2)
		if !slices.Equal(got, sels) || !slices.Equal(read, syms) {
			t.Fatalf("%v and %v", got, read)
		}
		spoil(got)
		spoil(read)
		if !slices.Equal(given, sels) || !slices.EqualFunc(lens, lists, slices.Equal) {
			t.Fatalf("%v and %v: an argument is changed with a result", given, lens)
		}
		writesCoded(t, syms, lens, given)
		spoil(given)
		for _, l := range lens {
			spoil(l)
		}
		impl.GetSels(sel, 2, 4)
		impl.GetCoded(sym, tablesOf([]int{1, 1}), []int{0}, 1)
	}
}
