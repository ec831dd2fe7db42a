package tests

import (
	"math"
	"math/rand"
	"slices"
	"testing"

	"loop.example/g00674/impl"
)

// The tests look at the whole list for each of its symbols: what stands between
// an occurrence and the previous one, and at which times the symbol occurred.

// mtfOf counts the different symbols since the previous occurrence, or those that lie before a symbol that is new.
func mtfOf(l []int) []int {
	ranks := make([]int, len(l))
	for i, x := range l {
		from := 0
		for j := range i {
			if l[j] == x {
				from = j + 1
			}
		}
		since := map[int]bool{}
		for _, y := range l[from:i] {
			since[y] = true
		}
		if from == 0 {
			for y := range x {
				since[y] = true
			}
		}
		ranks[i] = len(since)
	}
	return ranks
}

// sbrOf counts the symbols with a greater sum of their last two times, and the lesser symbols with the same one.
func sbrOf(l []int, n int) []int {
	times := make([][]int, n)
	for i := range times {
		times[i] = []int{0, 0}
	}
	sum := func(x int) int {
		t := times[x]
		return t[len(t)-1] + t[len(t)-2]
	}
	ranks := make([]int, len(l))
	for i, x := range l {
		for y := range n {
			if sum(y) > sum(x) || sum(y) == sum(x) && y < x {
				ranks[i]++
			}
		}
		times[x] = append(times[x], i+1)
	}
	return ranks
}

func invOf(l []int, n int) ([]int, []int) {
	counts := make([]int, n)
	var gaps []int
	for x := range n {
		previous := -1
		for i, y := range l {
			if y != x {
				continue
			}
			counts[x]++
			gap := 0
			for _, z := range l[previous+1 : i] {
				if z > x {
					gap++
				}
			}
			if x < n-1 {
				gaps = append(gaps, gap)
			}
			previous = i
		}
	}
	return counts, gaps
}

// ascendingTo is 0 .. n - 1.
func ascendingTo(n int) []int {
	l := make([]int, n)
	for i := range l {
		l[i] = i
	}
	return l
}

func descendingFrom(n int) []int {
	l := ascendingTo(n)
	slices.Reverse(l)
	return l
}

// allLists are all lists of up to most numbers below n.
func allLists(n int, most int) [][]int {
	lists := [][]int{nil}
	for i := 0; i < len(lists); i++ {
		if len(lists[i]) == most {
			break
		}
		for x := range n {
			lists = append(lists, append(slices.Clone(lists[i]), x))
		}
	}
	return lists
}

// localSymbols has n symbols below size, most of which are among the last few.
func localSymbols(source *rand.Rand, n int, size int) []int {
	l := make([]int, n)
	for i := range l {
		l[i] = source.Intn(size)
		if i > 0 && source.Intn(5) > 0 {
			l[i] = l[i-1-source.Intn(min(i, 4))]
		}
	}
	return l
}

// rankLists are lists valid with n: the empty one, each symbol once, one symbol alone, some that do not occur, and long ones.
func rankLists(n int) [][]int {
	up, down := ascendingTo(n), descendingFrom(n)
	source := rand.New(rand.NewSource(int64(n)))
	last, middle := n-1, n/2
	long := impl.MaxBlock / n
	lists := [][]int{
		nil, {}, {0}, {last}, {middle}, {0, 0}, {last, last}, {0, last}, {last, 0}, {0, last, 0}, {last, 0, last}, {last, last, 0, 0}, {0, 0, last, last},
		{0, last, last, 0, last, 0}, {middle, last, middle, middle, 0, middle}, up, down, slices.Concat(up, up), slices.Concat(down, up), slices.Concat(up, down),
		slices.Repeat(up, long), slices.Repeat(down, long), up[:middle], up[middle:], slices.Repeat(up[middle:], 2), slices.Repeat(up[:middle], 2),
		localSymbols(source, 40, n), localSymbols(source, 300, n), localSymbols(source, impl.MaxBlock, n), localSymbols(source, impl.MaxBlock, min(n, 5)),
		someSymbols(40, n), someSymbols(255, n), someSymbols(256, n), someSymbols(257, n), someSymbols(impl.MaxBlock-1, n), someSymbols(impl.MaxBlock, n),
		slices.Repeat([]int{0, last}, impl.MaxBlock/2), slices.Repeat([]int{last, last, middle}, impl.MaxBlock/3),
		append(slices.Repeat([]int{last}, impl.MaxBlock-1), 0), append([]int{last}, slices.Repeat([]int{0}, impl.MaxBlock-1)...),
	}
	for _, x := range []int{0, last, middle} {
		for _, size := range []int{2, 3, 10, impl.MaxBlock - 1, impl.MaxBlock} {
			lists = append(lists, slices.Repeat([]int{x}, size))
		}
	}
	return lists
}

// rankSizes are numbers of symbols: the limits, small ones, and some between.
func rankSizes() []int {
	return []int{1, 2, 3, 4, 5, 7, 8, 16, 26, 60, 100, 127, 128, 129, 200, 254, 255, 256}
}

// noSizes are no numbers of symbols.
func noSizes() []int {
	return append(badNumbers(), 0, -2, -255, -256, 257, 258, 260, 512, 600, 256+1<<32, 1+1<<32)
}

// invalidFor are lists that are not valid with n, a number of symbols: one number is outside at the beginning, at the end, or between, or there are too many.
func invalidFor(n int) [][]int {
	lists := [][]int{make([]int, impl.MaxBlock+1), slices.Repeat([]int{n - 1}, impl.MaxBlock+2), make([]int, 2*impl.MaxBlock), make([]int, 10000)}
	for _, x := range append(badNumbers(), n, n+1, 2*n, -2, -n, -256, 256, 257, 600, n+1<<32) {
		lists = append(lists, []int{x}, []int{x, 0}, []int{0, x}, []int{0, x, n - 1}, []int{x, x}, slices.Repeat([]int{x}, impl.MaxBlock+1))
		for _, place := range []int{0, 1, 300, impl.MaxBlock - 2, impl.MaxBlock - 1} {
			l := slices.Repeat([]int{n - 1}, impl.MaxBlock)
			l[place] = x
			lists = append(lists, l)
		}
	}
	return lists
}

// start is the beginning of a list, for messages.
func start(l []int) []int {
	return l[:min(len(l), 12)]
}

// recodes requires that there and back are inverse to each other for l, and returns what there makes of it.
func recodes(t *testing.T, name string, there func([]int, int) []int, back func([]int, int) []int, l []int, n int) []int {
	t.Helper()
	ranks := there(l, n)
	if got := back(ranks, n); !impl.RanksOk(ranks, n) || len(ranks) != len(l) || !slices.Equal(got, l) {
		t.Fatalf("%s of %d symbols %v of %d: %v, and back %v", name, len(l), start(l), n, start(ranks), start(got))
	}
	return ranks
}

// bothWays requires the ranks of l, and that Mtf and UnMtf, and Sbr and UnSbr, are inverse to each other in both directions.
func bothWays(t *testing.T, l []int, n int) {
	t.Helper()
	if got := recodes(t, "Mtf", impl.Mtf, impl.UnMtf, l, n); !slices.Equal(got, mtfOf(l)) {
		t.Fatalf("Mtf of %d symbols %v of %d: %v", len(l), start(l), n, start(got))
	}
	if got := recodes(t, "Sbr", impl.Sbr, impl.UnSbr, l, n); !slices.Equal(got, sbrOf(l, n)) {
		t.Fatalf("Sbr of %d symbols %v of %d: %v", len(l), start(l), n, start(got))
	}
	recodes(t, "UnMtf", impl.UnMtf, impl.Mtf, l, n)
	recodes(t, "UnSbr", impl.UnSbr, impl.Sbr, l, n)
}

// gotInv requires these counts and gaps of l, and l of them.
func gotInv(t *testing.T, l []int, n int, counts []int, gaps []int) {
	t.Helper()
	c, g := impl.Inv(l, n)
	if !slices.Equal(c, counts) || !slices.Equal(g, gaps) {
		t.Fatalf("%d symbols %v of %d: counts %v and %d gaps %v", len(l), start(l), n, start(c), len(g), start(g))
	}
	if got, ok := impl.UnInv(counts, gaps, n); !ok || !slices.Equal(got, l) {
		t.Fatalf("counts %v and %d gaps %v of %d: %v, %v, not %v", start(counts), len(gaps), start(gaps), n, start(got), ok, start(l))
	}
}

func refusedUnInv(t *testing.T, counts []int, gaps []int, n int) {
	t.Helper()
	if l, ok := impl.UnInv(counts, gaps, n); ok || len(l) != 0 {
		t.Errorf("%d counts %v and %d gaps %v of %d: %v, %v", len(counts), start(counts), len(gaps), start(gaps), n, start(l), ok)
	}
}

// refusedRanks requires that l is not valid with n for any function.
func refusedRanks(t *testing.T, l []int, n int) {
	t.Helper()
	if impl.RanksOk(l, n) {
		t.Errorf("%d numbers %v are valid with %d", len(l), start(l), n)
	}
	for i, f := range []func([]int, int) []int{impl.Mtf, impl.UnMtf, impl.Sbr, impl.UnSbr} {
		if got := f(l, n); len(got) != 0 {
			t.Errorf("transform %d of %d numbers %v of %d: %v", i, len(l), start(l), n, start(got))
		}
	}
	if c, g := impl.Inv(l, n); len(c) != 0 || len(g) != 0 {
		t.Errorf("%d numbers %v of %d: counts %v and gaps %v", len(l), start(l), n, start(c), start(g))
	}
}

func TestRecencyExamples(t *testing.T) {
	if got := impl.Mtf([]int{2, 2, 0, 1, 1}, 3); !slices.Equal(got, []int{2, 0, 1, 2, 0}) {
		t.Error("Mtf", got)
	}
	if got := impl.UnMtf([]int{2, 0, 1, 2, 0}, 3); !slices.Equal(got, []int{2, 2, 0, 1, 1}) {
		t.Error("UnMtf", got)
	}
	if got := impl.Sbr([]int{2, 2, 0, 0, 2}, 3); !slices.Equal(got, []int{2, 0, 1, 0, 1}) {
		t.Error("Sbr", got)
	}
	if got := impl.UnSbr([]int{2, 0, 1, 0, 1}, 3); !slices.Equal(got, []int{2, 2, 0, 0, 2}) {
		t.Error("UnSbr", got)
	}
	gotInv(t, []int{1, 0, 2, 1, 0}, 3, []int{2, 2, 1}, []int{1, 2, 0, 1})
}

func TestRanksOk(t *testing.T) {
	for n := 1; n <= 256; n++ {
		for _, l := range [][]int{nil, {}, {0}, {n - 1}, {0, n - 1}, {n - 1, 0}, ascendingTo(n), make([]int, impl.MaxBlock), slices.Repeat([]int{n - 1}, impl.MaxBlock)} {
			if !impl.RanksOk(l, n) {
				t.Errorf("%d numbers %v are not valid with %d", len(l), start(l), n)
			}
		}
	}
	for size := range impl.MaxBlock + 1 {
		if !impl.RanksOk(make([]int, size), 1) || !impl.RanksOk(someSymbols(size, 256), 256) {
			t.Errorf("lists of %d numbers", size)
		}
	}
	for _, n := range append(rankSizes(), noSizes()...) {
		for _, l := range allLists(4, 3) {
			if impl.RanksOk(l, n) != (n >= 1 && n <= 256 && (len(l) == 0 || slices.Max(l) < n)) {
				t.Errorf("%v with %d: %v", l, n, impl.RanksOk(l, n))
			}
		}
	}
}

// TestRecencyRefuses has numbers of symbols and lists that are not valid, each for every function.
func TestRecencyRefuses(t *testing.T) {
	for _, n := range noSizes() {
		for _, l := range [][]int{nil, {}, {0}, {1}, {0, 0}, {1, 0, 2}, {-1}, {n}, {n - 1}, ascendingTo(256), ascendingTo(257), make([]int, impl.MaxBlock), make([]int, impl.MaxBlock+1)} {
			refusedRanks(t, l, n)
		}
	}
	for _, n := range rankSizes() {
		for _, l := range invalidFor(n) {
			refusedRanks(t, l, n)
		}
	}
	for place := range impl.MaxBlock {
		for _, x := range []int{-1, 3} {
			l := slices.Repeat([]int{2, 0, 1}, impl.MaxBlock/3)
			l[place] = x
			refusedRanks(t, l, 3)
		}
	}
}

// handCase is a list, and its ranks as found on paper.
type handCase struct {
	n     int
	l     []int
	ranks []int
}

func byHand(t *testing.T, there func([]int, int) []int, back func([]int, int) []int, cases []handCase) {
	t.Helper()
	for _, c := range cases {
		if got := there(c.l, c.n); !slices.Equal(got, c.ranks) {
			t.Errorf("%v of %d: %v, not %v", c.l, c.n, got, c.ranks)
		}
		if got := back(c.ranks, c.n); !slices.Equal(got, c.l) {
			t.Errorf("%v of %d: back %v, not %v", c.ranks, c.n, got, c.l)
		}
	}
}

// TestMtfByHand follows the list of symbols on paper.
func TestMtfByHand(t *testing.T) {
	byHand(t, impl.Mtf, impl.UnMtf, []handCase{
		{1, nil, nil},
		{256, nil, nil},
		{1, []int{0}, []int{0}},
		{1, []int{0, 0, 0}, []int{0, 0, 0}},
		{256, []int{255}, []int{255}},
		{256, []int{255, 254, 0, 255}, []int{255, 255, 2, 2}},
		{2, []int{1, 0, 1, 0, 0}, []int{1, 1, 1, 1, 0}},
		{3, []int{2, 2, 2, 2}, []int{2, 0, 0, 0}},
		{4, []int{0, 1, 2, 3}, []int{0, 1, 2, 3}},
		{4, []int{3, 2, 1, 0}, []int{3, 3, 3, 3}},
		{4, []int{0, 1, 2, 3, 0, 1, 2, 3}, []int{0, 1, 2, 3, 3, 3, 3, 3}},
		{4, []int{3, 0, 3, 0, 1}, []int{3, 1, 1, 1, 2}},
		{5, []int{2, 0, 4, 2, 4, 4}, []int{2, 1, 4, 2, 1, 0}},
	})
}

// TestSbrByHand follows the times on paper. The comments give sums of times.
func TestSbrByHand(t *testing.T) {
	byHand(t, impl.Sbr, impl.UnSbr, []handCase{
		{1, nil, nil},
		{256, nil, nil},
		{1, []int{0}, []int{0}},
		{1, []int{0, 0, 0}, []int{0, 0, 0}},
		{256, []int{255}, []int{255}},
		// The first symbol has the sum 1, and is before all others.
		{2, []int{1, 1, 1}, []int{1, 0, 0}},
		{256, []int{255, 255}, []int{255, 0}},
		{256, []int{255, 254, 254}, []int{255, 255, 0}},
		{4, []int{0, 1, 2, 3}, []int{0, 1, 2, 3}},
		{4, []int{3, 2, 1, 0}, []int{3, 3, 3, 3}},
		// 0 and 1 have 1 and 2, then 4 and 2, then 4 and 6.
		{2, []int{0, 1, 0, 1, 0}, []int{0, 1, 1, 1, 1}},
		// Both have 3: twice at 1 and 2, once at 3.
		{2, []int{0, 0, 1, 0}, []int{0, 0, 1, 0}},
		{2, []int{0, 0, 1, 1}, []int{0, 0, 1, 1}},
		{2, []int{1, 1, 0, 0}, []int{1, 0, 1, 0}},
		{2, []int{1, 1, 0, 1}, []int{1, 0, 1, 1}},
		// Both have 5: 1 and 4, 2 and 3.
		{2, []int{0, 1, 1, 0, 0}, []int{0, 1, 0, 1, 0}},
		{2, []int{0, 1, 1, 0, 1}, []int{0, 1, 0, 1, 1}},
		{2, []int{1, 0, 0, 1, 0}, []int{1, 1, 0, 1, 0}},
		{2, []int{1, 0, 0, 1, 1}, []int{1, 1, 0, 1, 1}},
		// 2 has 3 and 0 has 3; then 1 has 4, which is more than either of them.
		{3, []int{2, 2, 0, 1, 2}, []int{2, 0, 1, 2, 2}},
		// The new time of 0 is the greatest, but 2 has 3 + 2 and 0 has 4 + 0.
		{3, []int{1, 2, 2, 0, 2, 0}, []int{1, 2, 0, 2, 0, 1}},
		// 0 has 5 + 1, and drops the 1 for 7: it has 12, and 1 has 6 + 4.
		{3, []int{0, 2, 2, 1, 0, 1, 0, 1, 2}, []int{0, 2, 0, 2, 2, 2, 1, 1, 2}},
	})
}

// TestInvByHand counts on paper.
func TestInvByHand(t *testing.T) {
	for _, c := range []struct {
		n      int
		l      []int
		counts []int
		gaps   []int
	}{
		{1, nil, []int{0}, nil},
		{3, nil, []int{0, 0, 0}, nil},
		{256, nil, make([]int, 256), nil},
		{1, []int{0}, []int{1}, nil},
		{1, make([]int, impl.MaxBlock), []int{impl.MaxBlock}, nil},
		{2, []int{0}, []int{1, 0}, []int{0}},
		{2, []int{1}, []int{0, 1}, nil},
		{2, []int{0, 1}, []int{1, 1}, []int{0}},
		{2, []int{1, 0}, []int{1, 1}, []int{1}},
		{2, []int{1, 1, 0, 0, 1, 0, 1}, []int{3, 4}, []int{2, 0, 1}},
		{2, []int{0, 0, 0}, []int{3, 0}, []int{0, 0, 0}},
		{3, []int{1, 1, 1}, []int{0, 3, 0}, []int{0, 0, 0}},
		{3, []int{2, 2, 2}, []int{0, 0, 3}, nil},
		{4, []int{0, 1, 2, 3}, []int{1, 1, 1, 1}, []int{0, 0, 0}},
		{4, []int{3, 2, 1, 0}, []int{1, 1, 1, 1}, []int{3, 2, 1}},
		// The lesser symbols between two occurrences are not counted, and the equal ones end a gap.
		{4, []int{2, 0, 3, 1, 2, 0, 2}, []int{2, 1, 3, 1}, []int{1, 3, 2, 0, 1, 0}},
		// The symbol 1 does not occur.
		{3, []int{2, 0, 2, 2, 0}, []int{2, 0, 3}, []int{1, 2}},
		{4, []int{3, 3, 3, 1, 3, 1, 0}, []int{1, 2, 0, 4}, []int{6, 3, 1}},
	} {
		gotInv(t, c.l, c.n, c.counts, c.gaps)
	}
}

// TestRecencyAllLists has every list of some numbers of symbols.
func TestRecencyAllLists(t *testing.T) {
	for n, most := range []int{0, 9, 9, 7, 6, 5} {
		if n == 0 {
			continue
		}
		for _, l := range allLists(n, most) {
			bothWays(t, l, n)
			counts, gaps := invOf(l, n)
			gotInv(t, l, n, counts, gaps)
		}
	}
}

func TestRecencyLists(t *testing.T) {
	for _, n := range rankSizes() {
		for _, l := range rankLists(n) {
			bothWays(t, l, n)
			counts, gaps := invOf(l, n)
			gotInv(t, l, n, counts, gaps)
		}
	}
}

// TestSbrEqualSums has two symbols whose sums are equal again and again: one at the outer two of four times, one at the inner two.
func TestSbrEqualSums(t *testing.T) {
	for _, n := range []int{2, 3, 10, 256} {
		for _, c := range [][2]int{{0, 1}, {1, 0}, {0, n - 1}, {n - 1, 0}, {n - 2, n - 1}, {n - 1, n - 2}} {
			a, b := c[0], c[1]
			var l []int
			for range 20 {
				l = append(l, a, b, b, a)
				for i, x := range []int{min(a, b), max(a, b)} {
					got := impl.Sbr(append(slices.Clone(l), x), n)
					if got[len(l)] != i {
						t.Fatalf("%d of %d after %v: %d", x, n, l, got[len(l)])
					}
					back := impl.UnSbr(append(got[:len(l)], i), n)
					if back[len(l)] != x {
						t.Fatalf("%d of %d after %v: %d", i, n, l, back[len(l)])
					}
				}
			}
		}
	}
}

// TestInvOnly has all counts and gaps within small limits and outside them. Those that a list has are accepted, and no others.
func TestInvOnly(t *testing.T) {
	for _, c := range []struct{ n, count, gaps, gap int }{{1, 4, 2, 2}, {2, 3, 4, 4}, {3, 2, 4, 4}, {4, 1, 3, 4}} {
		lists := map[string][]int{}
		for _, l := range allLists(c.n, c.n*c.count) {
			counts, gaps := invOf(l, c.n)
			if slices.Max(counts) <= c.count && len(gaps) <= c.gaps {
				lists[keyOf(counts, gaps)] = slices.Clone(l)
			}
		}
		found := 0
		for _, counts := range allLists(c.count+2, c.n+1) {
			for i := range counts {
				counts[i]--
			}
			for _, gaps := range allLists(c.gap+2, c.gaps) {
				for i := range gaps {
					gaps[i]--
				}
				want, is := lists[keyOf(counts, gaps)]
				got, ok := impl.UnInv(counts, gaps, c.n)
				if ok != is || !slices.Equal(got, want) {
					t.Fatalf("counts %v and gaps %v of %d: %v, %v, not %v, %v", counts, gaps, c.n, got, ok, want, is)
				}
				if is {
					found++
				}
			}
		}
		if found != len(lists) || found < 5 {
			t.Errorf("%d of %d lists of %d symbols are found", found, len(lists), c.n)
		}
	}
}

// keyOf tells pairs of short lists of small numbers apart.
func keyOf(counts []int, gaps []int) string {
	key := ""
	for _, x := range counts {
		key += string(rune('b' + x))
	}
	key += "."
	for _, x := range gaps {
		key += string(rune('b' + x))
	}
	return key
}

// TestUnInvSizes has a number of counts that is not n, or a number of symbols that none is.
func TestUnInvSizes(t *testing.T) {
	for _, n := range rankSizes() {
		for _, size := range []int{0, 1, n - 1, n + 1, n + 2, 2 * n, 256, 257, 600, 5000} {
			if size == n {
				continue
			}
			refusedUnInv(t, make([]int, size), nil, n)
			counts := make([]int, size)
			if size > 0 {
				counts[size-1] = 5
				refusedUnInv(t, counts, nil, n)
				refusedUnInv(t, counts, make([]int, 5), n)
				counts[0] = 2
				refusedUnInv(t, counts, make([]int, 2), n)
			}
		}
		for _, l := range rankLists(n) {
			counts, gaps := invOf(l, n)
			refusedUnInv(t, counts, gaps, n+1)
			refusedUnInv(t, counts, gaps, n-1)
			refusedUnInv(t, counts[:n-1], gaps, n)
			refusedUnInv(t, append([]int{0}, counts...), gaps, n)
			refusedUnInv(t, append(counts, 0), gaps, n)
		}
	}
	for _, n := range noSizes() {
		for _, counts := range [][]int{nil, {}, {0}, {1}, {0, 1}, make([]int, 256), make([]int, 257), make([]int, 258), make([]int, 600)} {
			refusedUnInv(t, counts, nil, n)
			refusedUnInv(t, counts, []int{0}, n)
		}
	}
	counts := make([]int, 257)
	counts[256] = 3
	refusedUnInv(t, counts, nil, 257)
}

// TestUnInvCounts has counts that are below 0, or whose sum is more than MaxBlock or too large for an int.
func TestUnInvCounts(t *testing.T) {
	for _, n := range rankSizes() {
		for _, place := range []int{0, n / 2, n - 1} {
			counts := make([]int, n)
			for _, count := range append(badNumbers(), -2, -impl.MaxBlock, impl.MaxBlock+1, impl.MaxBlock+2, 1<<62, math.MaxInt-1) {
				counts[place] = count
				refusedUnInv(t, counts, nil, n)
				refusedUnInv(t, counts, make([]int, impl.MaxBlock), n)
				refusedUnInv(t, counts, make([]int, impl.MaxBlock+1), n)
				refusedUnInv(t, counts, make([]int, impl.MaxBlock+2), n)
				if n == 1 {
					continue
				}
				// The other count makes the sum one that a list could have, also where the sum wraps around.
				for _, sum := range []int{0, 1, impl.MaxBlock} {
					counts[(place+1)%n] = sum - count
					refusedUnInv(t, counts, nil, n)
					refusedUnInv(t, counts, make([]int, sum), n)
					if gaps := sum - counts[n-1]; gaps > 0 && gaps < 2000 {
						refusedUnInv(t, counts, make([]int, gaps), n)
					}
				}
				counts[(place+1)%n] = 0
			}
		}
	}
	for _, counts := range [][]int{
		{math.MaxInt, math.MaxInt, 2}, {math.MinInt, math.MinInt, 0}, {math.MinInt, math.MinInt, 3}, {1 << 62, 1 << 62, 1 << 62}, {1 << 62, 1 << 62, 0},
		{-1, 0, 1}, {0, -1, 1}, {1, -1, 0}, {2, -1, 0}, {600, -600, 600}, {600, 600, -600}, {-600, 600, 600}, {-1, -1, -1},
	} {
		for gaps := range 4 {
			refusedUnInv(t, counts, make([]int, gaps), 3)
		}
		refusedUnInv(t, counts, make([]int, impl.MaxBlock), 3)
	}
	for _, c := range []struct {
		counts []int
		ok     bool
	}{
		{[]int{600, 0}, true}, {[]int{601, 0}, false}, {[]int{0, 600}, true}, {[]int{0, 601}, false}, {[]int{300, 300}, true},
		{[]int{300, 301}, false}, {[]int{301, 300}, false}, {[]int{599, 1}, true}, {[]int{1, 599}, true}, {[]int{600, 1}, false}, {[]int{1, 600}, false},
	} {
		l, ok := impl.UnInv(c.counts, make([]int, c.counts[0]), 2)
		if ok != c.ok || ok && !slices.Equal(l, slices.Concat(make([]int, c.counts[0]), slices.Repeat([]int{1}, c.counts[1]))) || !ok && len(l) != 0 {
			t.Errorf("counts %v: %d symbols, %v", c.counts, len(l), ok)
		}
	}
}

// TestUnInvGaps changes the gaps of lists: one less, one more, one that is below 0, and one that is too large by one or by far.
func TestUnInvGaps(t *testing.T) {
	for _, n := range []int{1, 2, 3, 8, 100, 256} {
		for i, l := range rankLists(n) {
			counts, gaps := invOf(l, n)
			refusedUnInv(t, counts, append(slices.Clone(gaps), 0), n)
			refusedUnInv(t, counts, append([]int{0}, gaps...), n)
			refusedUnInv(t, counts, append(slices.Clone(gaps), make([]int, counts[n-1]+1)...), n)
			if len(gaps) == 0 {
				continue
			}
			refusedUnInv(t, counts, gaps[1:], n)
			refusedUnInv(t, counts, gaps[:len(gaps)-1], n)
			refusedUnInv(t, counts, nil, n)
			step := 1 + len(gaps)/(7+i%5)
			for place := i % step; place < len(gaps); place += step {
				for _, gap := range append(badNumbers(), -2, -600, impl.MaxBlock, impl.MaxBlock+1, 1<<62) {
					spoilt := slices.Clone(gaps)
					spoilt[place] = gap
					refusedUnInv(t, counts, spoilt, n)
				}
			}
			mostGaps(t, counts, gaps, n)
		}
	}
}

// mostGaps enlarges one gap of each symbol until there are no more greater symbols, and then by one more.
func mostGaps(t *testing.T, counts []int, gaps []int, n int) {
	t.Helper()
	from := 0
	for x := range n - 1 {
		end := from + counts[x]
		if counts[x] == 0 || x%17 > 3 {
			from = end
			continue
		}
		left := 0
		for _, count := range counts[x+1:] {
			left += count
		}
		for _, gap := range gaps[from:end] {
			left -= gap
		}
		if left < 0 {
			t.Fatalf("symbol %d of counts %v: %v", x, counts, gaps[from:end])
		}
		for _, place := range []int{from, from + counts[x]/2, end - 1} {
			changed := slices.Clone(gaps)
			changed[place] += left
			l, ok := impl.UnInv(counts, changed, n)
			c, g := invOf(l, n)
			if !ok || !slices.Equal(c, counts) || !slices.Equal(g, changed) {
				t.Fatalf("symbol %d of counts %v: %v, %v", x, counts, start(l), ok)
			}
			changed[place]++
			refusedUnInv(t, counts, changed, n)
			if place+1 < end {
				changed[place+1]--
				if l, ok := impl.UnInv(counts, changed, n); ok != (changed[place+1] >= 0) || !ok && len(l) != 0 {
					t.Fatalf("symbol %d of counts %v: %v, %v", x, counts, start(l), ok)
				}
			}
		}
		from = end
	}
}

// TestUnInvLast has no gaps for the symbol n - 1, however often it occurs.
func TestUnInvLast(t *testing.T) {
	for _, n := range rankSizes() {
		for _, count := range []int{0, 1, 2, 100, impl.MaxBlock - 1, impl.MaxBlock} {
			counts := make([]int, n)
			counts[n-1] = count
			gotInv(t, slices.Repeat([]int{n - 1}, count), n, counts, nil)
			refusedUnInv(t, counts, []int{0}, n)
			if count > 1 {
				refusedUnInv(t, counts, make([]int, count), n)
			}
		}
	}
}

// TestUnInvMany reads gaps of any size, of which a list has some.
func TestUnInvMany(t *testing.T) {
	source := rand.New(rand.NewSource(15))
	read := 0
	for range 4000 {
		n := 2 + source.Intn(5)
		counts := make([]int, n)
		for i := range counts {
			counts[i] = source.Intn(4)
		}
		counts[n-1] += source.Intn(20)
		var gaps []int
		for _, count := range counts[:n-1] {
			for range count {
				gaps = append(gaps, source.Intn(5))
			}
		}
		l, ok := impl.UnInv(counts, gaps, n)
		if !ok {
			if len(l) != 0 || !tooMany(counts, gaps) {
				t.Fatalf("counts %v and gaps %v: %v, %v", counts, gaps, l, ok)
			}
			continue
		}
		read++
		c, g := invOf(l, n)
		if !slices.Equal(c, counts) || !slices.Equal(g, gaps) {
			t.Fatalf("counts %v and gaps %v: %v", counts, gaps, l)
		}
	}
	if read < 500 || read > 3500 {
		t.Errorf("%d of 4000 are read", read)
	}
}

// tooMany reports whether the gaps of some symbol are more than there are greater symbols.
func tooMany(counts []int, gaps []int) bool {
	for i, count := range counts[:len(counts)-1] {
		left := 0
		for _, greater := range counts[i+1:] {
			left += greater
		}
		for _, gap := range gaps[:count] {
			left -= gap
		}
		if left < 0 {
			return true
		}
		gaps = gaps[count:]
	}
	return false
}

// TestRecencyArguments passes parts of longer lists, all of which must stay as they were.
func TestRecencyArguments(t *testing.T) {
	for _, l := range [][]int{nil, {0}, {2, 2, 0, 1, 1}, {1, 0, 2, 1, 0}, {0, 1, 2}, {-1}, {3, 0}, make([]int, impl.MaxBlock), make([]int, impl.MaxBlock+1), someSymbols(impl.MaxBlock, 3)} {
		all := slices.Concat([]int{-7}, l, []int{1, 0, 5, -5})
		kept := slices.Clone(all)
		part := all[1 : 1+len(l)]
		for _, n := range []int{1, 3, 256} {
			impl.RanksOk(part, n)
			impl.Mtf(part, n)
			impl.UnMtf(part, n)
			impl.Sbr(part, n)
			impl.UnSbr(part, n)
			impl.Inv(part, n)
		}
		if !slices.Equal(all, kept) {
			t.Errorf("%v is %v", start(kept), start(all))
		}
	}
	for _, l := range [][]int{nil, {0}, {2}, {1, 0, 2, 1, 0}, descendingFrom(3), someSymbols(impl.MaxBlock, 3)} {
		counts, gaps := invOf(l, 3)
		allCounts, allGaps := append(counts, 4, 3, -1), append(gaps, 1, 0, -1)
		keptCounts, keptGaps := slices.Clone(allCounts), slices.Clone(allGaps)
		impl.UnInv(allCounts[:3], allGaps[:len(gaps)], 3)
		impl.UnInv(allCounts[:2], allGaps[:len(gaps)], 2)
		impl.UnInv(allCounts[:3], allGaps[:len(gaps)+1], 3)
		if !slices.Equal(allCounts, keptCounts) || !slices.Equal(allGaps, keptGaps) {
			t.Errorf("%v: %v and %v", start(l), start(allCounts), start(allGaps))
		}
	}
}

// TestRecencyKeepsNothing spoils results in both orders, with what lies behind them, and repeats the calls with others in between.
func TestRecencyKeepsNothing(t *testing.T) {
	for _, n := range []int{1, 2, 3, 26, 256} {
		for _, l := range [][]int{{0}, {n - 1}, ascendingTo(n), localSymbols(rand.New(rand.NewSource(16)), impl.MaxBlock, n)} {
			given := slices.Clone(l)
			counts, gaps := invOf(l, n)
			keptCounts, keptGaps := slices.Clone(counts), slices.Clone(gaps)
			want := ranksOfAll(given, counts, gaps, n)
			for i := range want {
				want[i] = slices.Clone(want[i])
			}
			order := ascendingTo(len(want))
			for range 2 {
				slices.Reverse(order)
				results := ranksOfAll(given, counts, gaps, n)
				for at, i := range order {
					if !slices.Equal(results[i], want[i]) {
						t.Fatalf("result %d for %v of %d: %v", i, start(l), n, start(results[i]))
					}
					full := results[i][:cap(results[i])]
					for j := range full {
						full[j] = -9
					}
					// No other result changes with it.
					for _, k := range order[at+1:] {
						if !slices.Equal(results[k], want[k]) {
							t.Fatalf("result %d for %v of %d changes result %d", i, start(l), n, k)
						}
					}
				}
				impl.Mtf([]int{5, 4}, 6)
				impl.UnSbr([]int{5, 4}, 6)
				impl.UnInv([]int{1, 1}, []int{7}, 2)
				if !slices.Equal(given, l) || !slices.Equal(counts, keptCounts) || !slices.Equal(gaps, keptGaps) {
					t.Fatalf("%v of %d: an argument is changed with a result", start(l), n)
				}
			}
		}
	}
}

// ranksOfAll has the results of all functions that return lists, each in memory of its own as far as the functions keep to that.
func ranksOfAll(l []int, counts []int, gaps []int, n int) [][]int {
	c, g := impl.Inv(l, n)
	symbols, _ := impl.UnInv(counts, gaps, n)
	return [][]int{impl.Mtf(l, n), impl.UnMtf(l, n), impl.Sbr(l, n), impl.UnSbr(l, n), c, g, symbols}
}
