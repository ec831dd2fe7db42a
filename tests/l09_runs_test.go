package tests

import (
	"math"
	"math/rand"
	"slices"
	"strconv"
	"testing"

	"loop.example/g00674/impl"
)

// The tests take the symbols of k from k + 1 in plain base 2, without its first 1: m digits
// are each one more than a digit of base 2, and these ones are 2^m - 1 in all.

// runOf is what RunSyms must return for k, 1 or more.
func runOf(k int) []int {
	text := strconv.FormatInt(int64(k)+1, 2)[1:]
	var l []int
	for i := len(text) - 1; i >= 0; i-- {
		l = append(l, int(text[i]-'0'))
	}
	return l
}

// packOf looks at each run of zeros from its end.
func packOf(l []int, n int) []int {
	var packed []int
	for i, x := range l {
		if x != 0 {
			packed = append(packed, x+1)
			continue
		}
		if i+1 < len(l) && l[i+1] == 0 {
			continue
		}
		zeros := 0
		for zeros <= i && l[i-zeros] == 0 {
			zeros++
		}
		packed = append(packed, runOf(zeros)...)
	}
	return append(packed, n+1)
}

// unpackOf reads symbol by symbol, the digits with weights that begin anew behind each other symbol.
func unpackOf(l []int, n int, most int) ([]int, bool) {
	if n < 1 || n > 256 || most < 0 {
		return nil, false
	}
	var numbers []int
	weight := 1
	for i, x := range l {
		switch {
		case x == n+1:
			return numbers, i == len(l)-1
		case x == 0 || x == 1:
			numbers = append(numbers, make([]int, (x+1)*weight)...)
			weight *= 2
		case x >= 2 && x <= n:
			numbers = append(numbers, x-1)
			weight = 1
		default:
			return nil, false
		}
		if len(numbers) > most || len(numbers) > impl.MaxBlock {
			return nil, false
		}
	}
	return nil, false
}

// fewSymbols has size symbols, of which about four in five or more are 0.
func fewSymbols(source *rand.Rand, size int, n int) []int {
	l := make([]int, size)
	for i := range l {
		if source.Intn(5) == 0 {
			l[i] = source.Intn(n)
		}
	}
	return l
}

// runLists are lists valid with n: those of the recency transforms, and runs of zeros of many sizes alone and among other numbers.
func runLists(n int) [][]int {
	source := rand.New(rand.NewSource(int64(n)))
	lists := rankLists(n)
	other := []int{n - 1}
	for _, k := range []int{1, 2, 3, 4, 5, 6, 7, 8, 13, 14, 15, 62, 63, 64, 254, 255, 256, 297, 298, 299, 509, 510, 511, 512, 597, 598, 599, impl.MaxBlock} {
		run := make([]int, k)
		lists = append(lists, run, fewSymbols(source, k, n))
		for _, l := range [][]int{
			slices.Concat(run, other), slices.Concat(other, run), slices.Concat(other, run, other), slices.Concat(run, other, run),
			slices.Concat(run, []int{n / 2}, run, other), slices.Concat(other, other, run, other, []int{0}), slices.Concat([]int{0}, other, run, other, []int{0, 0}),
		} {
			if len(l) <= impl.MaxBlock {
				lists = append(lists, l)
			}
		}
		// Other numbers before and behind the run fill the list.
		for _, before := range []int{0, 1, (impl.MaxBlock - k) / 2, impl.MaxBlock - k} {
			if before > impl.MaxBlock-k {
				continue
			}
			lists = append(lists, slices.Concat(slices.Repeat(other, before), run, slices.Repeat(other, impl.MaxBlock-k-before)))
		}
	}
	return lists
}

// packs requires the symbols of l, that they are of the alphabet and not too many, and that l, and nothing longer than most, comes back.
func packs(t *testing.T, l []int, n int) {
	t.Helper()
	packed := impl.PackRuns(l, n)
	if !slices.Equal(packed, packOf(l, n)) {
		t.Fatalf("%d numbers %v of %d: %d symbols %v", len(l), start(l), n, len(packed), start(packed))
	}
	if len(packed) > len(l)+1 || slices.Min(packed) < 0 || slices.Max(packed) != n+1 || slices.Index(packed, n+1) != len(packed)-1 {
		t.Fatalf("%d numbers %v of %d: %d symbols up to %d", len(l), start(l), n, len(packed), slices.Max(packed))
	}
	for _, most := range []int{len(l), len(l) + 1, impl.MaxBlock, impl.MaxBlock + 1, math.MaxInt - 1, math.MaxInt} {
		gotNumbers(t, packed, n, most, l)
	}
	for _, most := range []int{len(l) - 1, len(l) - 2, 0, -1, math.MinInt} {
		if most < len(l) {
			refusedPacked(t, packed, n, most)
		}
	}
}

func gotNumbers(t *testing.T, packed []int, n int, most int, want []int) {
	t.Helper()
	if l, ok := impl.UnpackRuns(packed, n, most); !ok || !slices.Equal(l, want) {
		t.Fatalf("%d symbols %v of %d, at most %d numbers: %d numbers %v, %v, not %d numbers %v", len(packed), start(packed), n, most, len(l), start(l), ok, len(want), start(want))
	}
}

func refusedPacked(t *testing.T, packed []int, n int, most int) {
	t.Helper()
	if l, ok := impl.UnpackRuns(packed, n, most); ok || len(l) != 0 {
		t.Fatalf("%d symbols %v of %d, at most %d numbers: %d numbers %v, %v", len(packed), start(packed), n, most, len(l), start(l), ok)
	}
}

// noMost are no numbers of elements that a list has.
func noMost() []int {
	return []int{-1, -2, -impl.MaxBlock, math.MinInt, math.MinInt + 1}
}

func TestRunExamples(t *testing.T) {
	if got := impl.RunSyms(3); !slices.Equal(got, []int{0, 0}) {
		t.Error("RunSyms", got)
	}
	if got := impl.RunLen([]int{1, 1}); got != 6 {
		t.Error("RunLen", got)
	}
	if got := impl.PackRuns([]int{0, 0, 0, 2, 0, 1}, 3); !slices.Equal(got, []int{0, 0, 3, 0, 2, 4}) {
		t.Error("PackRuns", got)
	}
	gotNumbers(t, []int{0, 0, 3, 0, 2, 4}, 3, 6, []int{0, 0, 0, 2, 0, 1})
}

// TestRunsByHand has the digits of k as found on paper, each with its weight.
func TestRunsByHand(t *testing.T) {
	for _, c := range []struct {
		k int
		l []int
	}{
		{1, []int{0}},
		{2, []int{1}},
		{3, []int{0, 0}},
		{4, []int{1, 0}},
		{5, []int{0, 1}},
		{6, []int{1, 1}},
		{7, []int{0, 0, 0}},
		{8, []int{1, 0, 0}},
		{9, []int{0, 1, 0}},
		{10, []int{1, 1, 0}},
		{11, []int{0, 0, 1}},
		{12, []int{1, 0, 1}},
		{13, []int{0, 1, 1}},
		{14, []int{1, 1, 1}},
		{15, []int{0, 0, 0, 0}},
		{510, []int{1, 1, 1, 1, 1, 1, 1, 1}},
		{511, []int{0, 0, 0, 0, 0, 0, 0, 0, 0}},
		// 2 + 2 + 4 + 16 + 32 + 32 + 128 + 128 + 256.
		{impl.MaxBlock, []int{1, 0, 0, 1, 1, 0, 1, 0, 0}},
	} {
		if got := impl.RunSyms(c.k); !slices.Equal(got, c.l) {
			t.Errorf("%d: %v, not %v", c.k, got, c.l)
		}
		if got := impl.RunLen(c.l); got != c.k {
			t.Errorf("%v: %d, not %d", c.l, got, c.k)
		}
	}
}

// TestRunsAll has every k forth and back, and no two with the same symbols.
func TestRunsAll(t *testing.T) {
	for k := 1; k <= impl.MaxBlock; k++ {
		l := impl.RunSyms(k)
		if !slices.Equal(l, runOf(k)) {
			t.Errorf("%d: %v", k, l)
		}
		if got := impl.RunLen(l); got != k {
			t.Errorf("%v: %d, not %d", l, got, k)
		}
		sum := 0
		for i, x := range l {
			sum += (x + 1) << i
		}
		if sum != k {
			t.Errorf("%d: %v, the digits of %d", k, l, sum)
		}
		for other := 1; other < k; other++ {
			if slices.Equal(l, runOf(other)) {
				t.Errorf("%d and %d: %v", other, k, l)
			}
		}
	}
}

func TestRunSymsRefuses(t *testing.T) {
	for _, k := range append(badNumbers(), 0, -2, -3, -6, -impl.MaxBlock, impl.MaxBlock+1, impl.MaxBlock+2, 1022, 1023, 1024, 100000, math.MaxInt-1, 3+1<<32) {
		if l := impl.RunSyms(k); len(l) != 0 {
			t.Errorf("%d: %d symbols %v", k, len(l), start(l))
		}
	}
	for k := impl.MaxBlock + 1; k < 3000; k++ {
		if l := impl.RunSyms(k); len(l) != 0 {
			t.Errorf("%d: %v", k, l)
		}
	}
}

// TestRunLenDigits has all digits of up to 12 places, most of which are more than MaxBlock.
func TestRunLenDigits(t *testing.T) {
	found := 0
	for _, l := range allLists(2, 12) {
		want := -1
		for k := 1; k <= impl.MaxBlock && len(l) > 0; k++ {
			if len(l) <= 9 && slices.Equal(runOf(k), l) {
				want = k
				found++
				break
			}
		}
		if got := impl.RunLen(l); got != want {
			t.Fatalf("%v: %d, not %d", l, got, want)
		}
	}
	if found != impl.MaxBlock {
		t.Errorf("%d runs are found", found)
	}
	// 600 is the last k, and what comes next is none.
	for k := 1; k < 1200; k++ {
		if got := impl.RunLen(runOf(k)); k <= impl.MaxBlock && got != k || k > impl.MaxBlock && got != -1 {
			t.Errorf("%d: %d", k, got)
		}
	}
}

// TestRunLenMany has more digits than an int has bits, whose sum can come back to a small one where it wraps around.
func TestRunLenMany(t *testing.T) {
	for size := 10; size <= 300; size++ {
		for _, l := range [][]int{
			make([]int, size), slices.Repeat([]int{1}, size), append(make([]int, size-1), 1), append(slices.Repeat([]int{1}, size-1), 0),
			append([]int{1}, make([]int, size-1)...), append([]int{0}, slices.Repeat([]int{1}, size-1)...), someSymbols(size, 2),
		} {
			if got := impl.RunLen(l); got != -1 {
				t.Errorf("%d digits %v: %d", size, start(l), got)
			}
		}
	}
	// In so many bits the sum of these is k, and further digits add nothing to it.
	for k := 1; k <= impl.MaxBlock; k++ {
		for _, width := range []int{8, 16, 31, 32, 33, 62, 63, 64} {
			l := digitsBehind(k, width)
			for _, more := range []int{0, 1, 5, 64, 1000} {
				if got := impl.RunLen(append(slices.Clone(l), make([]int, more)...)); got != -1 {
					t.Fatalf("digits %v of %d beyond %d bits, and %d more: %d", start(l), k, width, more, got)
				}
			}
		}
	}
	for _, size := range []int{1000, 10000, 1000000} {
		for _, symbol := range []int{0, 1} {
			if got := impl.RunLen(slices.Repeat([]int{symbol}, size)); got != -1 {
				t.Errorf("%d digits of the symbol %d: %d", size, symbol, got)
			}
		}
	}
}

// digitsBehind are width digits or more whose sum is more than MaxBlock and the same as k in its last width bits.
func digitsBehind(k int, width int) []int {
	var l []int
	for bit := range width {
		// Each digit makes the next bit of the sum right: it is 1 or 2, which differ in it.
		sum := uint64(0)
		for i, x := range l {
			sum += uint64(x+1) << i
		}
		if (sum+1<<bit)>>bit&1 == uint64(k)>>bit&1 {
			l = append(l, 0)
		} else {
			l = append(l, 1)
		}
	}
	if width < 10 {
		return append(l, 1, 1, 1)
	}
	return l
}

// TestRunLenSymbols has a symbol that is no digit, in each place of a run and behind digits that are too many.
func TestRunLenSymbols(t *testing.T) {
	if got := impl.RunLen(nil); got != -1 {
		t.Errorf("no symbol: %d", got)
	}
	if got := impl.RunLen([]int{}); got != -1 {
		t.Errorf("no symbol: %d", got)
	}
	bad := append(badNumbers(), 2, 3, 4, -2, -3, 257, 258, 600, 1+1<<32, 1<<62)
	for _, x := range bad {
		for _, l := range [][]int{{x}, {x, 0}, {0, x}, {1, x}, {x, 1}, {x, x}, {0, x, 0}, {1, 1, 1, x}, {x, 1, 1, 1}, append(make([]int, 100), x), append([]int{x}, make([]int, 100)...)} {
			if got := impl.RunLen(l); got != -1 {
				t.Errorf("%v: %d", start(l), got)
			}
		}
	}
	for k := 1; k <= impl.MaxBlock; k++ {
		run := runOf(k)
		for place := range run {
			for _, x := range bad {
				l := slices.Clone(run)
				l[place] = x
				if got := impl.RunLen(l); got != -1 {
					t.Fatalf("%v: %d", l, got)
				}
			}
		}
	}
}

// TestPackByHand has lists packed on paper.
func TestPackByHand(t *testing.T) {
	for _, c := range []struct {
		n      int
		l      []int
		packed []int
	}{
		{1, nil, []int{2}},
		{3, nil, []int{4}},
		{256, nil, []int{257}},
		{1, []int{0}, []int{0, 2}},
		{1, []int{0, 0}, []int{1, 2}},
		{1, []int{0, 0, 0}, []int{0, 0, 2}},
		{1, make([]int, impl.MaxBlock), []int{1, 0, 0, 1, 1, 0, 1, 0, 0, 2}},
		{256, make([]int, impl.MaxBlock), []int{1, 0, 0, 1, 1, 0, 1, 0, 0, 257}},
		{2, []int{1}, []int{2, 3}},
		{2, []int{1, 1}, []int{2, 2, 3}},
		{256, []int{255}, []int{256, 257}},
		{256, []int{0, 255, 0}, []int{0, 256, 0, 257}},
		{256, []int{1, 255, 254}, []int{2, 256, 255, 257}},
		// A run at the beginning, in the middle, and at the end.
		{4, []int{0, 0, 3, 1}, []int{1, 4, 2, 5}},
		{4, []int{3, 0, 0, 0, 1}, []int{4, 0, 0, 2, 5}},
		{4, []int{3, 1, 0, 0, 0, 0}, []int{4, 2, 1, 0, 5}},
		// Two runs that one number parts, and numbers that two or more runs part.
		{3, []int{0, 1, 0}, []int{0, 2, 0, 4}},
		{3, []int{0, 0, 2, 0, 0}, []int{1, 3, 1, 4}},
		{3, []int{0, 0, 0, 0, 1, 0, 0, 0}, []int{1, 0, 2, 0, 0, 4}},
		{3, []int{2, 0, 2, 0, 0, 2, 2}, []int{3, 0, 3, 1, 3, 3, 4}},
	} {
		if got := impl.PackRuns(c.l, c.n); !slices.Equal(got, c.packed) {
			t.Errorf("%v of %d: %v, not %v", start(c.l), c.n, got, c.packed)
		}
		gotNumbers(t, c.packed, c.n, len(c.l), c.l)
	}
}

// TestPackAllLists has every list of some numbers, and no two that pack to the same symbols.
func TestPackAllLists(t *testing.T) {
	for n, most := range []int{0, impl.MaxBlock, 11, 8, 6, 5} {
		if n == 0 {
			continue
		}
		seen := map[string]bool{}
		lists := allLists(n, most)
		for _, l := range lists {
			packs(t, l, n)
			seen[keyOf(impl.PackRuns(l, n), nil)] = true
		}
		if len(seen) != len(lists) {
			t.Errorf("%d lists of %d pack to %d", len(lists), n, len(seen))
		}
	}
}

func TestPackLists(t *testing.T) {
	for _, n := range rankSizes() {
		for _, l := range runLists(n) {
			if len(l) <= impl.MaxBlock && slices.Max(append(l, 0)) < n {
				packs(t, l, n)
			} else {
				t.Fatalf("a list of %d numbers for %d", len(l), n)
			}
		}
	}
}

// TestPackSize has lists of each size without two zeros in a row, which become one symbol longer, and lists of zeros, of which only a single one does.
func TestPackSize(t *testing.T) {
	for size := range impl.MaxBlock + 1 {
		for _, n := range []int{2, 256} {
			without := slices.Repeat([]int{n - 1}, size)
			single := make([]int, size)
			for i := range single {
				single[i] = i % 2
			}
			for _, l := range [][]int{without, single} {
				if got := impl.PackRuns(l, n); len(got) != size+1 {
					t.Errorf("%d numbers %v of %d: %d symbols", size, start(l), n, len(got))
				}
				packs(t, l, n)
			}
		}
		if size > 0 {
			if got := impl.PackRuns(make([]int, size), 1); len(got) != len(runOf(size))+1 || size > 1 && len(got) > size {
				t.Errorf("%d zeros: %d symbols", size, len(got))
			}
		}
	}
}

func TestPackRefuses(t *testing.T) {
	refused := func(l []int, n int) {
		t.Helper()
		if got := impl.PackRuns(l, n); len(got) != 0 {
			t.Errorf("%d numbers %v of %d: %d symbols %v", len(l), start(l), n, len(got), start(got))
		}
	}
	for _, n := range noSizes() {
		for _, l := range [][]int{nil, {}, {0}, {0, 0}, {1}, {1, 0, 2}, {-1}, {n}, {n - 1}, ascendingTo(256), ascendingTo(257), make([]int, impl.MaxBlock), make([]int, impl.MaxBlock+1)} {
			refused(l, n)
		}
	}
	for _, n := range rankSizes() {
		for _, l := range invalidFor(n) {
			refused(l, n)
		}
	}
	for place := range impl.MaxBlock {
		for _, x := range []int{-1, 3, 4} {
			l := slices.Repeat([]int{2, 0, 0, 1}, impl.MaxBlock/4)
			l[place] = x
			refused(l, 3)
		}
	}
}

// TestUnpackOnly has all lists of symbols within small limits and outside them. Those to which a list packs are accepted, and no others.
func TestUnpackOnly(t *testing.T) {
	for _, c := range []struct{ n, symbols, numbers int }{{1, 6, 62}, {2, 4, 14}, {3, 3, 6}, {4, 3, 6}} {
		// No list of more numbers packs to as few symbols.
		lists := map[string][]int{}
		for _, l := range allLists(c.n, c.numbers) {
			if packed := packOf(l, c.n); len(packed) <= c.symbols {
				lists[keyOf(packed, nil)] = slices.Clone(l)
			}
		}
		found := 0
		for _, packed := range allLists(c.n+4, c.symbols) {
			for i := range packed {
				packed[i]--
			}
			want, is := lists[keyOf(packed, nil)]
			if is {
				found++
			}
			for _, most := range []int{-1, 0, 1, 2, 3, 4, 5, 6, 7, 13, 14, 61, 62, impl.MaxBlock} {
				if is && len(want) <= most {
					gotNumbers(t, packed, c.n, most, want)
				} else {
					refusedPacked(t, packed, c.n, most)
				}
			}
		}
		if found != len(lists) || found < 5 {
			t.Errorf("%d of %d lists of %d are found", found, len(lists), c.n)
		}
	}
}

func TestUnpackSizes(t *testing.T) {
	for _, n := range noSizes() {
		for _, packed := range [][]int{nil, {}, {n + 1}, {0, n + 1}, {2, n + 1}, {1}, {0}, {0, 1}, {257}, {258}, {0, 258}, {2, 3, 258}, {n}} {
			for _, most := range []int{0, 1, impl.MaxBlock, math.MaxInt} {
				refusedPacked(t, packed, n, most)
			}
		}
	}
	// The same symbols are those of one n alone, by the end marker.
	for _, n := range rankSizes() {
		for _, other := range append(rankSizes(), 6, 57) {
			packed := []int{0, 1, n + 1}
			if other == n {
				gotNumbers(t, packed, other, 5, make([]int, 5))
			} else {
				refusedPacked(t, packed, other, 5)
			}
		}
	}
}

// TestUnpackEnd has lists whose end marker is missing, or is not at the end alone.
func TestUnpackEnd(t *testing.T) {
	for _, n := range rankSizes() {
		end := n + 1
		for _, packed := range [][]int{nil, {}, {0}, {1}, {n}, {0, n}, {end, 0}, {end, 1}, {end, n}, {end, end}, {0, end, end}, {end, 0, end}, {end, 0, 0, end}, {0, end, 0}, {n, end, n, end}} {
			refusedPacked(t, packed, n, impl.MaxBlock)
			refusedPacked(t, packed, n, math.MaxInt)
		}
		for _, l := range rankLists(n) {
			packed := packOf(l, n)
			body := packed[:len(packed)-1]
			refusedPacked(t, body, n, impl.MaxBlock)
			refusedPacked(t, append(slices.Clone(packed), end), n, impl.MaxBlock)
			refusedPacked(t, append(slices.Clone(packed), 0), n, impl.MaxBlock)
			refusedPacked(t, append([]int{end}, packed...), n, impl.MaxBlock)
			for place := 0; place < len(body); place += 1 + len(body)/7 {
				spoilt := slices.Clone(packed)
				spoilt[place] = end
				refusedPacked(t, spoilt, n, impl.MaxBlock)
				refusedPacked(t, packed[:place], n, impl.MaxBlock)
			}
		}
	}
}

// TestUnpackSymbols has a symbol that no list packs to, at each place.
func TestUnpackSymbols(t *testing.T) {
	for _, n := range rankSizes() {
		end := n + 1
		bad := append(badNumbers(), n+2, n+3, -2, -n, 2*n+3, 258, 259, 600, end+1<<32)
		for _, x := range bad {
			for _, packed := range [][]int{{x}, {x, end}, {0, x, end}, {x, 0, end}, {1, x, 1, end}, {n, x, end}, {x, n, end}, {end, x}, {x, x, end}, {0, end, x}} {
				refusedPacked(t, packed, n, impl.MaxBlock)
				refusedPacked(t, packed, n, math.MaxInt)
			}
			packed := packOf(someSymbols(impl.MaxBlock, n), n)
			for place := 0; place < len(packed); place += 1 + len(packed)/20 {
				spoilt := slices.Clone(packed)
				spoilt[place] = x
				refusedPacked(t, spoilt, n, impl.MaxBlock)
			}
		}
	}
}

// TestUnpackTooMany has symbols for up to MaxBlock numbers, and for more.
func TestUnpackTooMany(t *testing.T) {
	for _, n := range []int{2, 3, 100, 256} {
		end := []int{n + 1}
		other := []int{n}
		for zeros := range impl.MaxBlock + 3 {
			for _, others := range []int{0, 1, 2, impl.MaxBlock - zeros - 1, impl.MaxBlock - zeros, impl.MaxBlock - zeros + 1, impl.MaxBlock - zeros + 2} {
				if others < 0 {
					continue
				}
				var run []int
				if zeros > 0 {
					run = runOf(zeros)
				}
				for _, before := range []int{0, others / 2, others} {
					packed := slices.Concat(slices.Repeat(other, before), run, slices.Repeat(other, others-before), end)
					numbers := slices.Concat(slices.Repeat([]int{n - 1}, before), make([]int, zeros), slices.Repeat([]int{n - 1}, others-before))
					for _, most := range []int{impl.MaxBlock - 1, impl.MaxBlock, impl.MaxBlock + 1, math.MaxInt} {
						if len(numbers) <= min(most, impl.MaxBlock) {
							gotNumbers(t, packed, n, most, numbers)
						} else {
							refusedPacked(t, packed, n, most)
						}
					}
				}
			}
		}
		// Runs that are each short enough, and are not together.
		for _, zeros := range []int{1, 2, 149, 150, 298, 299, 300, 301, 598, 599, 600, 601} {
			for runs := 1; runs < 310; runs++ {
				packed := slices.Repeat(slices.Concat(runOf(zeros), other), runs)
				numbers := runs * (zeros + 1)
				if numbers <= impl.MaxBlock {
					gotNumbers(t, slices.Concat(packed, end), n, impl.MaxBlock, slices.Repeat(append(make([]int, zeros), n-1), runs))
				} else {
					refusedPacked(t, slices.Concat(packed, end), n, impl.MaxBlock)
					refusedPacked(t, slices.Concat(packed, end), n, math.MaxInt)
				}
			}
		}
	}
}

// TestUnpackLong has many symbols, digits that wrap around among them.
func TestUnpackLong(t *testing.T) {
	for _, n := range []int{1, 2, 256} {
		end := []int{n + 1}
		for _, most := range []int{0, impl.MaxBlock, math.MaxInt} {
			for size := 10; size < 200; size++ {
				refusedPacked(t, slices.Concat(make([]int, size), end), n, most)
				refusedPacked(t, slices.Concat(slices.Repeat([]int{1}, size), end), n, most)
				refusedPacked(t, slices.Concat(someSymbols(size, 2), end), n, most)
			}
			for k := 1; k <= impl.MaxBlock; k += 7 {
				for _, width := range []int{8, 32, 63, 64} {
					refusedPacked(t, slices.Concat(digitsBehind(k, width), end), n, most)
					refusedPacked(t, slices.Concat(digitsBehind(k, width), make([]int, 64), end), n, most)
				}
			}
			for _, symbol := range []int{0, 1, n, n + 1, n + 2, -1} {
				refusedPacked(t, slices.Concat(slices.Repeat([]int{symbol}, 1000000), end), n, most)
			}
		}
	}
}

// TestUnpackMost has every most from below 0 to beyond the length of a list.
func TestUnpackMost(t *testing.T) {
	for _, n := range []int{1, 2, 3, 256} {
		for _, l := range [][]int{nil, {0}, {n - 1}, {0, 0}, {0, 0, n - 1}, {n - 1, 0, 0}, make([]int, 50), make([]int, impl.MaxBlock), someSymbols(60, n), someSymbols(impl.MaxBlock, n)} {
			packed := packOf(l, n)
			for most := range impl.MaxBlock + 10 {
				if most >= len(l) {
					gotNumbers(t, packed, n, most, l)
				} else {
					refusedPacked(t, packed, n, most)
				}
			}
			for _, most := range noMost() {
				refusedPacked(t, packed, n, most)
			}
		}
	}
}

// TestUnpackMany reads symbols of any kind, and packs again what is accepted.
func TestUnpackMany(t *testing.T) {
	source := rand.New(rand.NewSource(9))
	read := 0
	for range 40000 {
		n := 1 + source.Intn(5)
		packed := make([]int, source.Intn(25))
		for i := range packed {
			packed[i] = source.Intn(n + 1)
			if source.Intn(40) == 0 {
				packed[i] = source.Intn(n+4) - 1
			}
		}
		if source.Intn(10) > 0 {
			packed = append(packed, n+1)
		}
		most := source.Intn(100)
		if source.Intn(3) == 0 {
			most = impl.MaxBlock
		}
		want, is := unpackOf(packed, n, most)
		if !is {
			refusedPacked(t, packed, n, most)
			continue
		}
		read++
		gotNumbers(t, packed, n, most, want)
		if got := impl.PackRuns(want, n); !slices.Equal(got, packed) {
			t.Fatalf("%v of %d: %v", packed, n, got)
		}
	}
	if read < 4000 || read > 36000 {
		t.Errorf("%d of 40000 are read", read)
	}
}

// TestRunsArguments passes parts of longer lists, all of which must stay as they were.
func TestRunsArguments(t *testing.T) {
	for _, l := range [][]int{nil, {0}, {1}, {1, 1}, {0, 0, 0, 2, 0, 1}, {0, 0, 3, 0, 2, 4}, {4}, {4, 4}, {-1, 4}, {2, 1, 0, 1, 4}, make([]int, impl.MaxBlock), make([]int, impl.MaxBlock+1), someSymbols(impl.MaxBlock, 3), append(someSymbols(100, 4), 4)} {
		all := slices.Concat([]int{-7}, l, []int{1, 0, 4, -5})
		kept := slices.Clone(all)
		part := all[1 : 1+len(l)]
		for _, n := range []int{1, 3, 256} {
			impl.RunLen(part)
			impl.PackRuns(part, n)
			impl.UnpackRuns(part, n, impl.MaxBlock)
			impl.UnpackRuns(part, n, 2)
		}
		if !slices.Equal(all, kept) {
			t.Errorf("%v is %v", start(kept), start(all))
		}
	}
}

// TestRunsKeepNothing spoils results with what lies behind them, and repeats the calls with others in between.
func TestRunsKeepNothing(t *testing.T) {
	for _, n := range []int{1, 2, 3, 26, 256} {
		for _, l := range [][]int{nil, {0}, {n - 1}, {0, 0, 0, n - 1, 0}, make([]int, impl.MaxBlock), someSymbols(impl.MaxBlock, n)} {
			given, packed := slices.Clone(l), packOf(l, n)
			keptPacked := slices.Clone(packed)
			for range 3 {
				symbols := impl.PackRuns(given, n)
				numbers, _ := impl.UnpackRuns(packed, n, len(l))
				run := impl.RunSyms(max(1, len(l)))
				if !slices.Equal(symbols, packed) || !slices.Equal(numbers, l) || !slices.Equal(run, runOf(max(1, len(l)))) {
					t.Fatalf("%v of %d: %v, %v and %v", start(l), n, start(symbols), start(numbers), run)
				}
				for _, result := range [][]int{symbols, numbers, run} {
					full := result[:cap(result)]
					for i := range full {
						full[i] = -9
					}
				}
				impl.PackRuns([]int{0, 1, 0, 0}, 2)
				impl.UnpackRuns([]int{1, 0, 2, 3}, 2, 9)
				if !slices.Equal(given, l) || !slices.Equal(packed, keptPacked) {
					t.Fatalf("%v of %d: an argument is changed with a result", start(l), n)
				}
			}
		}
	}
}
