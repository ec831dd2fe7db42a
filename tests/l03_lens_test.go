package tests

import (
	"cmp"
	"math"
	"math/rand"
	"slices"
	"testing"

	"loop.example/g00674/impl"
)

// The tests hold the code lengths against packages that name the symbols they
// contain, and against the cost of the best code, found without packages.

// weights are the frequencies as the codes see them.
func weights(f []int) []int {
	w := slices.Clone(f)
	for i := range w {
		if w[i] == 0 {
			w[i] = 1
		}
	}
	return w
}

// costOf does not refuse anything.
func costOf(w []int, l []int) int {
	cost := 0
	for i := range w {
		cost += w[i] * l[i]
	}
	return cost
}

// kraftOf divides the code space once for each bit.
func kraftOf(l []int) int {
	sum := 0
	for _, x := range l {
		part := 1 << impl.MaxLen
		for range x {
			part /= 2
		}
		sum += part
	}
	return sum
}

// bundle is an item of the document's lists: its kind, 0 for a symbol and 1
// for a package, and its number decide between equal weights.
type bundle struct {
	weight, kind, number int
	symbols              []int
}

func sortBundles(list []bundle) {
	slices.SortFunc(list, func(a bundle, b bundle) int {
		return cmp.Or(cmp.Compare(a.weight, b.weight), cmp.Compare(a.kind, b.kind), cmp.Compare(a.number, b.number))
	})
}

// lensOfBundles is the algorithm as the document describes it, for two symbols or more.
func lensOfBundles(f []int, lim int) []int {
	var symbols []bundle
	for i, w := range weights(f) {
		symbols = append(symbols, bundle{weight: w, number: i, symbols: []int{i}})
	}
	sortBundles(symbols)
	list := symbols
	for range lim - 1 {
		next := slices.Clone(symbols)
		for i := 1; i < len(list); i += 2 {
			a, b := list[i-1], list[i]
			next = append(next, bundle{weight: a.weight + b.weight, kind: 1, number: i, symbols: slices.Concat(a.symbols, b.symbols)})
		}
		sortBundles(next)
		list = next
	}
	l := make([]int, len(f))
	for _, x := range list[:2*len(f)-2] {
		for _, i := range x.symbols {
			l[i]++
		}
	}
	return l
}

// leastCost is the cost of the best code of two symbols or more with lengths up
// to lim. It goes down a code tree and decides, at each depth, how many of the
// open nodes become leaves; the heaviest symbols that are left get them.
func leastCost(w []int, lim int) int {
	w = slices.Sorted(slices.Values(w))
	slices.Reverse(w)
	rest := make([]int, len(w)+1)
	for i := len(w) - 1; i >= 0; i-- {
		rest[i] = rest[i+1] + w[i]
	}
	known := map[[3]int]int{}
	var below func(depth int, done int, open int) int
	below = func(depth int, done int, open int) int {
		left := len(w) - done
		if left <= open {
			return 0
		}
		if depth == lim {
			return math.MaxInt / 2
		}
		at := [3]int{depth, done, open}
		if cost, ok := known[at]; ok {
			return cost
		}
		cost := math.MaxInt / 2
		for leaves := range open {
			cost = min(cost, rest[done+leaves]+below(depth+1, done+leaves, min(2*(open-leaves), left)))
		}
		known[at] = cost
		return cost
	}
	return rest[0] + below(1, 0, 2)
}

// lightestTwice is the document's way to HuffCost.
func lightestTwice(f []int) int {
	w := weights(f)
	cost := 0
	for len(w) > 1 {
		slices.Sort(w)
		sum := w[0] + w[1]
		cost += sum
		w = append(w[2:], sum)
	}
	if len(f) == 1 {
		return w[0]
	}
	return cost
}

// fibonacci has n frequencies whose best code without a limit is as deep as any.
func fibonacci(n int) []int {
	f := []int{1, 1}
	for len(f) < n {
		f = append(f, f[len(f)-1]+f[len(f)-2])
	}
	return f[:n]
}

// someFreqs are lists with few and many equal weights, in and out of order.
func someFreqs() [][]int {
	list := [][]int{
		{0}, {1}, {5}, {impl.MaxFreq}, {0, 0}, {0, 1}, {1, 0}, {0, 3}, {3, 0}, {9, 9}, {impl.MaxFreq, 0}, {impl.MaxFreq, impl.MaxFreq},
		{1, 0, 0}, {0, 0, 1}, {1, 1, 2}, {2, 1, 1}, {1, 1, 2, 4}, {4, 2, 1, 1}, {1, 1, 2, 2}, {2, 2, 1, 1}, {2, 1, 2, 1}, {1, 2, 3, 3, 6}, {8, 4, 2, 1, 1},
		{128, 8, 512, 8, 64, 256, 2}, {3, 2, 29, 7, 4, 5, 17}, {0, impl.MaxFreq, 0, impl.MaxFreq, 0},
		fibonacci(19), fibonacci(21), fibonacci(22), fibonacci(30),
		{1, 2, 4, 8, 16, 32, 64, 128, 256, 512, 1024, 2048, 4096, 8192, 1 << 14, 1 << 15, 1 << 16, 1 << 17, 1 << 18, 1 << 19},
	}
	for _, n := range []int{3, 4, 5, 6, 7, 8, 9, 15, 16, 17, 31, 32, 33} {
		up := make([]int, n)
		for i := range up {
			up[i] = i
		}
		down := slices.Clone(up)
		slices.Reverse(down)
		list = append(list, slices.Repeat([]int{0}, n), slices.Repeat([]int{7}, n), up, down)
	}
	source := rand.New(rand.NewSource(3))
	for i := range 400 {
		f := make([]int, 2+source.Intn(12+i/20))
		for j := range f {
			switch i % 5 {
			case 0:
				f[j] = source.Intn(4)
			case 1:
				f[j] = source.Intn(40)
			case 2:
				f[j] = 1 << source.Intn(12)
			case 3:
				f[j] = source.Intn(impl.MaxFreq + 1)
			case 4:
				f[j] = 1 + source.Intn(1<<source.Intn(20))
			}
		}
		list = append(list, f)
	}
	return list
}

// longFreqs are lists of about MaxSyms symbols.
func longFreqs() [][]int {
	var list [][]int
	for _, n := range []int{255, 256, 257, 259, impl.MaxSyms} {
		list = append(list, slices.Repeat([]int{0}, n), slices.Repeat([]int{impl.MaxFreq}, n))
		source := rand.New(rand.NewSource(int64(n)))
		for _, most := range []int{3, 10, 1000, impl.MaxFreq} {
			f := make([]int, n)
			for i := range f {
				f[i] = source.Intn(most + 1)
			}
			list = append(list, f)
		}
		steep := slices.Repeat([]int{0}, n)
		copy(steep[n/3:], fibonacci(30))
		list = append(list, steep)
	}
	return list
}

// invalidLists has every length and every place that a number outside low .. high can spoil.
func invalidLists(good int, bad []int) [][]int {
	list := [][]int{nil, {}, slices.Repeat([]int{good}, impl.MaxSyms+1), slices.Repeat([]int{good}, 1000)}
	for _, x := range append(bad, badNumbers()...) {
		list = append(list, []int{x}, []int{x, good}, []int{good, x}, []int{good, x, good}, []int{x, x})
		last := slices.Repeat([]int{good}, impl.MaxSyms)
		last[impl.MaxSyms-1] = x
		list = append(list, last)
	}
	return list
}

func invalidFreqs() [][]int {
	return invalidLists(3, []int{-1, -2, -impl.MaxFreq, impl.MaxFreq + 1, 2 * impl.MaxFreq})
}

func invalidLens() [][]int {
	return invalidLists(10, []int{0, -1, impl.MaxLen + 1, impl.MaxLen + 2, 32, 63, 64, 65, 84})
}

// crowdedLens are lists of valid numbers that no code has: their Kraft sum is too large.
func crowdedLens() [][]int {
	deep := []int{impl.MaxLen}
	for x := range impl.MaxLen {
		deep = append(deep, x+1)
	}
	return [][]int{
		{1, 1, 1}, {1, 1, 2}, {1, 2, 1}, {2, 2, 2, 2, 2}, {1, 1, 20}, {20, 1, 1}, {1, 2, 3, 3, 20}, append(deep, impl.MaxLen),
		slices.Repeat([]int{1}, impl.MaxSyms), slices.Repeat([]int{8}, 257), slices.Repeat([]int{8}, impl.MaxSyms),
	}
}

// someLens are lists that a code has, with and without code space left.
func someLens() [][]int {
	deep := []int{impl.MaxLen}
	for x := range impl.MaxLen {
		deep = append(deep, x+1)
	}
	return [][]int{
		{1}, {2}, {20}, {1, 1}, {1, 2}, {2, 1}, {20, 20}, {1, 20}, {1, 2, 2}, {2, 1, 2}, {2, 2, 2}, {2, 2, 2, 2}, {1, 2, 3, 3}, {1, 3, 3, 3, 3}, {2, 3, 3, 2, 3},
		deep, deep[1:], slices.Repeat([]int{8}, 256), slices.Repeat([]int{9}, impl.MaxSyms), slices.Repeat([]int{20}, impl.MaxSyms),
	}
}

func refusedLens(t *testing.T, f []int, lim int) {
	t.Helper()
	if l, ok := impl.Lens(f, lim); ok || len(l) != 0 {
		t.Errorf("%d symbols %v with the limit %d: %v, %v", len(f), f[:min(len(f), 8)], lim, l, ok)
	}
}

// lensFor returns the lengths, which must keep to the promise for one list at least.
func lensFor(t *testing.T, f []int, lim int) []int {
	t.Helper()
	l, ok := impl.Lens(f, lim)
	if !ok || len(l) != len(f) || slices.Min(l) < 1 || slices.Max(l) > lim || !impl.LensOk(l) {
		t.Fatalf("%v with the limit %d: %v, %v", f, lim, l, ok)
	}
	if kraft := kraftOf(l); len(f) > 1 && kraft != 1<<impl.MaxLen {
		t.Fatalf("%v with the limit %d: %v, Kraft sum %d", f, lim, l, kraft)
	}
	w := weights(f)
	for i := range f {
		for j := range f {
			if w[i] > w[j] && l[i] > l[j] {
				t.Fatalf("%v with the limit %d: %v, symbol %d weighs more than %d and has a longer code", f, lim, l, i, j)
			}
		}
	}
	return l
}

// limitsFor are the limits that leave room for n symbols.
func limitsFor(n int) []int {
	var list []int
	for lim := 1; lim <= impl.MaxLen; lim++ {
		if n <= 1<<lim {
			list = append(list, lim)
		}
	}
	return list
}

func TestLensExamples(t *testing.T) {
	if l, ok := impl.Lens([]int{1, 1, 2, 4}, 20); !ok || !slices.Equal(l, []int{3, 3, 2, 1}) {
		t.Error("Lens", l, ok)
	}
	if l, ok := impl.Lens([]int{1, 1, 2, 4}, 2); !ok || !slices.Equal(l, []int{2, 2, 2, 2}) {
		t.Error("Lens with the limit 2", l, ok)
	}
	if got := impl.Kraft([]int{1, 2, 2}); got != 1048576 {
		t.Error("Kraft", got)
	}
	if got := impl.CostOf([]int{5, 0, 2}, []int{1, 2, 2}); got != 9 {
		t.Error("CostOf", got)
	}
	if got := impl.HuffCost([]int{1, 1, 2, 4}); got != 14 {
		t.Error("HuffCost", got)
	}
}

func TestLensConstants(t *testing.T) {
	if impl.MaxSyms != 260 || impl.MaxFreq != 1000000 || impl.MaxLen != 20 {
		t.Error(impl.MaxSyms, impl.MaxFreq, impl.MaxLen)
	}
}

func TestFreqsOk(t *testing.T) {
	for _, f := range append(someFreqs(), longFreqs()...) {
		if !impl.FreqsOk(f) {
			t.Errorf("%v is refused", f)
		}
	}
	for _, f := range invalidFreqs() {
		if impl.FreqsOk(f) {
			t.Errorf("%d symbols %v are accepted", len(f), f[:min(len(f), 8)])
		}
	}
	for _, x := range []int{0, 1, impl.MaxFreq - 1, impl.MaxFreq} {
		for _, n := range []int{1, 2, impl.MaxSyms - 1, impl.MaxSyms} {
			if !impl.FreqsOk(slices.Repeat([]int{x}, n)) {
				t.Errorf("%d times %d is refused", n, x)
			}
		}
	}
}

func TestLensPackages(t *testing.T) {
	for _, f := range append(someFreqs(), longFreqs()...) {
		for _, lim := range limitsFor(len(f)) {
			got := lensFor(t, f, lim)
			want := []int{1}
			if len(f) > 1 {
				want = lensOfBundles(f, lim)
			}
			if !slices.Equal(got, want) {
				t.Fatalf("%v with the limit %d: %v, not %v", f, lim, got, want)
			}
		}
	}
}

// TestLensEqual has lists whose lengths depend on the order of items of equal weight.
func TestLensEqual(t *testing.T) {
	for _, x := range []struct {
		f    []int
		lim  int
		want []int
	}{
		{[]int{1, 1, 1}, 20, []int{2, 2, 1}},
		{[]int{0, 0, 0}, 2, []int{2, 2, 1}},
		// A frequency of 0 weighs as much as one of 1, so that the number decides.
		{[]int{0, 1, 0}, 2, []int{2, 2, 1}},
		{[]int{1, 0, 0}, 20, []int{2, 2, 1}},
		{[]int{1, 1, 1, 1, 1}, 3, []int{3, 3, 2, 2, 2}},
		{[]int{1, 1, 1, 1, 1}, 20, []int{3, 3, 2, 2, 2}},
		{[]int{5, 3, 5, 3, 3}, 20, []int{2, 3, 2, 3, 2}},
		{[]int{1, 1, 2}, 20, []int{2, 2, 1}},
		{[]int{1, 1, 2, 2}, 2, []int{2, 2, 2, 2}},
		{[]int{1, 1, 2, 2}, 3, []int{2, 2, 2, 2}},
		{[]int{1, 1, 2, 2}, 20, []int{2, 2, 2, 2}},
		{[]int{2, 1, 2, 1}, 20, []int{2, 2, 2, 2}},
		{[]int{2, 2, 1, 1}, 20, []int{2, 2, 2, 2}},
		// A package that is selected contains symbol 4 twice.
		{[]int{128, 8, 512, 8, 64, 256, 2}, 3, []int{3, 3, 2, 3, 3, 3, 3}},
	} {
		if got := lensFor(t, x.f, x.lim); !slices.Equal(got, x.want) {
			t.Errorf("%v with the limit %d: %v, not %v", x.f, x.lim, got, x.want)
		}
	}
}

func TestLensOneAndTwo(t *testing.T) {
	for _, x := range []int{0, 1, 2, 1000, impl.MaxFreq} {
		for lim := 1; lim <= impl.MaxLen; lim++ {
			if l, ok := impl.Lens([]int{x}, lim); !ok || !slices.Equal(l, []int{1}) {
				t.Errorf("one symbol, %d, with the limit %d: %v, %v", x, lim, l, ok)
			}
			for _, y := range []int{0, 1, 7, impl.MaxFreq} {
				if l, ok := impl.Lens([]int{x, y}, lim); !ok || !slices.Equal(l, []int{1, 1}) {
					t.Errorf("two symbols, %d and %d, with the limit %d: %v, %v", x, y, lim, l, ok)
				}
			}
		}
	}
}

// TestLensRoom has exactly 2^lim symbols, one less and one more.
func TestLensRoom(t *testing.T) {
	for lim := 1; 1<<lim < impl.MaxSyms; lim++ {
		n := 1 << lim
		for _, step := range []int{0, 1, 1000} {
			f := make([]int, n+1)
			for i := range f {
				f[i] = i * step
			}
			if got := lensFor(t, f[:n], lim); !slices.Equal(got, slices.Repeat([]int{lim}, n)) {
				t.Errorf("%d symbols in steps of %d with the limit %d: %v", n, step, lim, got)
			}
			lensFor(t, f[:n-1], lim)
			lensFor(t, f, lim+1)
			refusedLens(t, f, lim)
			for low := 1; low < lim; low++ {
				refusedLens(t, f[:n], low)
			}
		}
	}
}

func TestLensMaxSyms(t *testing.T) {
	// 260 leaves: 252 of depth 8, and the other four nodes of that depth with two leaves each.
	want := slices.Concat(slices.Repeat([]int{9}, 8), slices.Repeat([]int{8}, 252))
	for _, x := range []int{0, 1, 17, impl.MaxFreq} {
		for lim := 9; lim <= impl.MaxLen; lim++ {
			if got := lensFor(t, slices.Repeat([]int{x}, impl.MaxSyms), lim); !slices.Equal(got, want) {
				t.Errorf("%d with the limit %d: %v", x, lim, got)
			}
		}
		refusedLens(t, slices.Repeat([]int{x}, impl.MaxSyms), 8)
	}
}

// TestLensDeep has codes that reach the limit, whatever it is.
func TestLensDeep(t *testing.T) {
	for n := 2; n <= 30; n++ {
		for _, lim := range limitsFor(n) {
			l := lensFor(t, fibonacci(n), lim)
			if deepest := slices.Max(l); deepest != min(n-1, lim) {
				t.Errorf("%d Fibonacci numbers with the limit %d: %d", n, lim, deepest)
			}
		}
	}
}

func TestLensRefuses(t *testing.T) {
	for _, f := range invalidFreqs() {
		for _, lim := range []int{0, 1, 2, 9, impl.MaxLen, impl.MaxLen + 1, -1} {
			refusedLens(t, f, lim)
		}
	}
	for _, lim := range append(badNumbers(), 0, -1, -20, impl.MaxLen+1, 22, 31, 32, 62, 63, 64, 65, 128) {
		for _, f := range [][]int{{1}, {0}, {1, 1}, {1, 1, 2, 4}, slices.Repeat([]int{1}, impl.MaxSyms)} {
			refusedLens(t, f, lim)
		}
	}
}

// TestLensBest tries all lengths within the limit.
func TestLensBest(t *testing.T) {
	for _, f := range someFreqs() {
		if len(f) > 6 || slices.Min(f) == 0 {
			continue
		}
		for _, lim := range limitsFor(len(f)) {
			if lim > 4 {
				break
			}
			least := impl.CostOf(f, lensFor(t, f, lim))
			l := slices.Repeat([]int{1}, len(f))
			for more := true; more; more = nextLens(l, lim) {
				if cost := impl.CostOf(f, l); cost >= 0 && cost < least {
					t.Fatalf("%v with the limit %d: %d, but %d with %v", f, lim, least, cost, l)
				}
			}
		}
	}
}

// nextLens counts l up like a number, and reports whether there was a next one.
func nextLens(l []int, lim int) bool {
	for i := range l {
		if l[i] < lim {
			l[i]++
			return true
		}
		l[i] = 1
	}
	return false
}

// TestLensCheapest has lists for which all lengths would be too many.
func TestLensCheapest(t *testing.T) {
	for _, f := range someFreqs() {
		if len(f) < 2 || len(f) > 33 {
			continue
		}
		w := weights(f)
		for _, lim := range limitsFor(len(f)) {
			l := lensFor(t, f, lim)
			if got, want := costOf(w, l), leastCost(w, lim); got != want {
				t.Fatalf("%v with the limit %d: %v costs %d, not %d", f, lim, l, got, want)
			}
			if !slices.Contains(f, 0) && impl.CostOf(f, l) != costOf(w, l) {
				t.Fatalf("%v with the limit %d: CostOf %d, not %d", f, lim, impl.CostOf(f, l), costOf(w, l))
			}
		}
	}
}

func TestKraft(t *testing.T) {
	for _, l := range append(someLens(), crowdedLens()...) {
		if got, want := impl.Kraft(l), kraftOf(l); got != want {
			t.Errorf("%v: %d, not %d", l, got, want)
		}
	}
	for x := 1; x <= impl.MaxLen; x++ {
		if got := impl.Kraft([]int{x}); got != 1<<(20-x) {
			t.Errorf("%d: %d", x, got)
		}
	}
	if got := impl.Kraft(slices.Repeat([]int{1}, impl.MaxSyms)); got != 260*524288 {
		t.Error("ones", got)
	}
	for _, l := range invalidLens() {
		if got := impl.Kraft(l); got != -1 {
			t.Errorf("%v: %d", l, got)
		}
	}
}

func TestLensOk(t *testing.T) {
	for _, l := range someLens() {
		if !impl.LensOk(l) {
			t.Errorf("%v is refused", l)
		}
	}
	for _, l := range append(crowdedLens(), invalidLens()...) {
		if impl.LensOk(l) {
			t.Errorf("%v is accepted", l)
		}
	}
}

// TestLensOkAll has all lists of up to four of the numbers at the ends of the range.
func TestLensOkAll(t *testing.T) {
	lists := [][]int{nil}
	for i := 0; len(lists[i]) < 4; i++ {
		for _, x := range []int{1, 2, 3, 19, 20, -1, 0, 21} {
			lists = append(lists, append(slices.Clone(lists[i]), x))
		}
	}
	for _, l := range lists {
		want := -1
		if len(l) > 0 && slices.Min(l) >= 1 && slices.Max(l) <= 20 {
			want = kraftOf(l)
		}
		if got := impl.Kraft(l); got != want {
			t.Fatalf("Kraft(%v): %d, not %d", l, got, want)
		}
		if got := impl.LensOk(l); got != (want >= 0 && want <= 1<<20) {
			t.Fatalf("LensOk(%v): %v", l, got)
		}
	}
}

func TestCostOf(t *testing.T) {
	for _, l := range someLens() {
		for _, f := range [][]int{make([]int, len(l)), slices.Repeat([]int{1}, len(l)), slices.Repeat([]int{impl.MaxFreq}, len(l))} {
			for i := range f {
				f[i] = min(impl.MaxFreq, f[i]+i*i%5)
			}
			if got, want := impl.CostOf(f, l), costOf(f, l); got != want {
				t.Errorf("%v and %v: %d, not %d", f, l, got, want)
			}
		}
	}
	if got := impl.CostOf([]int{0, 0, 0}, []int{1, 2, 2}); got != 0 {
		t.Error("frequencies of 0", got)
	}
	if got := impl.CostOf(slices.Repeat([]int{impl.MaxFreq}, impl.MaxSyms), slices.Repeat([]int{20}, impl.MaxSyms)); got != 260*1000000*20 {
		t.Error("the largest cost", got)
	}
}

func TestCostOfRefuses(t *testing.T) {
	refused := func(f []int, l []int) {
		t.Helper()
		if got := impl.CostOf(f, l); got != -1 {
			t.Errorf("%v and %v: %d", f, l, got)
		}
	}
	for _, f := range invalidFreqs() {
		refused(f, slices.Repeat([]int{10}, len(f)))
		refused(f, nil)
		refused(f, []int{1, 1})
	}
	for _, l := range append(invalidLens(), crowdedLens()...) {
		refused(slices.Repeat([]int{1}, len(l)), l)
		refused(make([]int, len(l)), l)
		refused([]int{1, 1}, l)
	}
	for _, l := range someLens() {
		f := slices.Repeat([]int{1}, len(l)+1)
		refused(f, l)
		refused(f[:len(l)-1], l)
	}
}

func TestHuffCost(t *testing.T) {
	for _, f := range append(someFreqs(), longFreqs()...) {
		got := impl.HuffCost(f)
		if want := lightestTwice(f); got != want {
			t.Fatalf("%v: %d, not %d", f, got, want)
		}
		if n := len(f); n >= 2 && n <= 33 {
			if want := leastCost(weights(f), n); got != want {
				t.Fatalf("%v: %d, but the best code has %d", f, got, want)
			}
		}
	}
	for _, x := range []struct {
		f    []int
		want int
	}{
		{[]int{0}, 1}, {[]int{1}, 1}, {[]int{7}, 7}, {[]int{impl.MaxFreq}, impl.MaxFreq}, {[]int{0, 0}, 2}, {[]int{0, 5}, 6}, {[]int{5, 3}, 8},
		{[]int{4, 2, 1, 1}, 14}, {[]int{0, 0, 0}, 5}, {slices.Repeat([]int{impl.MaxFreq}, impl.MaxSyms), (8*9 + 252*8) * impl.MaxFreq},
	} {
		if got := impl.HuffCost(x.f); got != x.want {
			t.Errorf("%v: %d, not %d", x.f, got, x.want)
		}
	}
	for _, f := range invalidFreqs() {
		if got := impl.HuffCost(f); got != -1 {
			t.Errorf("%d symbols %v: %d", len(f), f[:min(len(f), 8)], got)
		}
	}
}

// TestHuffCostBound holds the code without a limit against the ones with it.
func TestHuffCostBound(t *testing.T) {
	for _, f := range append(someFreqs(), longFreqs()...) {
		w := weights(f)
		before := math.MaxInt
		for _, lim := range limitsFor(len(f)) {
			cost := costOf(w, lensFor(t, f, lim))
			if cost < impl.HuffCost(f) || cost > before {
				t.Fatalf("%v with the limit %d: %d, HuffCost %d, with the limit below %d", f, lim, cost, impl.HuffCost(f), before)
			}
			if lim >= len(f)-1 && cost != impl.HuffCost(f) {
				t.Fatalf("%v with the limit %d: %d, HuffCost %d", f, lim, cost, impl.HuffCost(f))
			}
			before = cost
		}
	}
	deep := fibonacci(30)
	if l := lensFor(t, deep, impl.MaxLen); impl.CostOf(deep, l) <= impl.HuffCost(deep) {
		t.Error("a limit that is too low for the best code costs nothing")
	}
}

// TestLensArguments passes parts of longer slices, all of which must stay as they were.
func TestLensArguments(t *testing.T) {
	for _, f := range [][]int{{7}, {0}, {0, 0}, {9, 0, 3, 0, 1}, {4, 2, 1, 1}, {5, -1}, fibonacci(30), slices.Repeat([]int{0, 2, 1, 0}, 65)} {
		all := slices.Concat([]int{-5}, f, []int{-6, 0, 3, 0})
		part := all[1 : 1+len(f)]
		codes := slices.Concat([]int{-5}, slices.Repeat([]int{20, 9}, len(f))[:len(f)], []int{-6, 0, 3, 0})
		lens := codes[1 : 1+len(f)]
		first, second := slices.Clone(all), slices.Clone(codes)
		for lim := range impl.MaxLen + 2 {
			impl.Lens(part, lim)
		}
		impl.FreqsOk(part)
		impl.HuffCost(part)
		impl.CostOf(part, lens)
		impl.Kraft(lens)
		impl.LensOk(lens)
		if !slices.Equal(all, first) || !slices.Equal(codes, second) {
			t.Errorf("%v is %v, %v is %v", first, all, second, codes)
		}
	}
}

// TestLensKeepsNothing spoils results and arguments, and repeats calls with others in between.
func TestLensKeepsNothing(t *testing.T) {
	list := someFreqs()
	var first [][]int
	for _, f := range list {
		f = slices.Clone(f)
		kept := slices.Clone(f)
		l, _ := impl.Lens(f, impl.MaxLen)
		first = append(first, slices.Clone(l))
		spare := l[:cap(l)]
		for i := range spare {
			spare[i] = -9
		}
		if !slices.Equal(f, kept) {
			t.Fatalf("%v shares memory with its lengths", kept)
		}
		l, _ = impl.Lens(f, impl.MaxLen)
		for i := range f {
			f[i] = -8
		}
		if !slices.Equal(l, first[len(first)-1]) {
			t.Fatalf("%v: %v, then %v", kept, first[len(first)-1], l)
		}
	}
	for i := len(list) - 1; i >= 0; i-- {
		impl.Lens(nil, 1)
		if l, ok := impl.Lens(list[i], impl.MaxLen); !ok || !slices.Equal(l, first[i]) {
			t.Errorf("%v: %v, then %v", list[i], first[i], l)
		}
	}
}
