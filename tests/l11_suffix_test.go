package tests

import (
	"math/rand"
	"runtime"
	"slices"
	"strings"
	"sync"
	"testing"
	"time"

	"loop.example/g00674/impl"
)

// mostSuffixes is the length up to which a string has a suffix array.
const mostSuffixes = 2 * impl.MaxBlock

// hasSuffixes requires the suffix array of s, the ranks and the common prefixes, each by its definition.
func hasSuffixes(t *testing.T, s string) {
	t.Helper()
	starts, ranks, lengths := impl.Suf(s), impl.RankOf(s), impl.Lcp(s)
	if len(starts) != len(s) || len(ranks) != len(s) || len(lengths) != len(s) {
		t.Fatalf("%d bytes %.40q: %d suffixes, %d ranks, %d lengths", len(s), s, len(starts), len(ranks), len(lengths))
	}
	indices := slices.Clone(starts)
	slices.Sort(indices)
	if !slices.Equal(indices, ascendingTo(len(s))) {
		t.Fatalf("%d bytes %.40q: not each suffix once: %v", len(s), s, starts)
	}
	for place, from := range starts {
		if ranks[from] != place {
			t.Fatalf("%d bytes %.40q: the suffix at %d has the rank %d, and is at the position %d", len(s), s, from, ranks[from], place)
		}
		if place > 0 && s[starts[place-1]:] >= s[from:] {
			t.Fatalf("%d bytes %.40q: the suffix at %d is ahead of that at %d", len(s), s, starts[place-1], from)
		}
	}
	if len(lengths) > 0 && lengths[0] != 0 {
		t.Fatalf("%d bytes %.40q: the first length is %d", len(s), s, lengths[0])
	}
	for place := 1; place < len(s); place++ {
		if !common(s[starts[place-1]:], s[starts[place]:], lengths[place]) {
			t.Fatalf("%d bytes %.40q: the suffixes at %d and %d do not have %d bytes in common", len(s), s, starts[place-1], starts[place], lengths[place])
		}
	}
}

// common tells whether n is the number of bytes up to which a and b are equal.
func common(a string, b string, n int) bool {
	if n < 0 || n > len(a) || n > len(b) || a[:n] != b[:n] {
		return false
	}
	return n == len(a) || n == len(b) || a[n] != b[n]
}

// rotatesBySuf requires the order of the rotations by its definition, and that it is that of chapter 10.
func rotatesBySuf(t *testing.T, s string) {
	t.Helper()
	order := impl.RotBySuf(s)
	sortedRotations(t, s, order)
	if want := impl.Rotations(s); !slices.Equal(order, want) {
		t.Fatalf("%d bytes %.40q: %v, and the rotations are %v", len(s), s, start(order), start(want))
	}
	if want := firstCopy(impl.Suf(s+s), len(s)); !slices.Equal(order, want) {
		t.Fatalf("%d bytes %.40q: %v, and the suffixes %v", len(s), s, start(order), start(want))
	}
	last, first := impl.LastBySuf(s)
	if len(last) != len(s) || first < 0 || first >= len(s) || order[first] != 0 {
		t.Fatalf("%d bytes %.40q: %d bytes, and %d", len(s), s, len(last), first)
	}
	for place, from := range order {
		if last[place] != (s + s)[from+len(s)-1] {
			t.Fatalf("%d bytes %.40q: %q at %d", len(s), s, last[place], place)
		}
	}
	if want, at := impl.Last(s); last != want || first != at {
		t.Fatalf("%d bytes %.40q: %.40q and %d, not %.40q and %d", len(s), s, last, first, want, at)
	}
}

// firstCopy leaves those that are less than n.
func firstCopy(starts []int, n int) []int {
	var list []int
	for _, from := range starts {
		if from < n {
			list = append(list, from)
		}
	}
	return list
}

// sufOf puts each suffix behind those that are less, without sorting.
func sufOf(s string) []int {
	starts := make([]int, len(s))
	for i := range len(s) {
		less := 0
		for j := range len(s) {
			if s[j:] < s[i:] {
				less++
			}
		}
		starts[less] = i
	}
	return starts
}

// differentParts counts the substrings that are not empty, equal ones once.
func differentParts(s string) int {
	parts := map[string]bool{}
	for from := range len(s) {
		for to := from + 1; to <= len(s); to++ {
			parts[s[from:to]] = true
		}
	}
	return len(parts)
}

func TestSuffixExamples(t *testing.T) {
	if got := impl.Suf("aba"); !slices.Equal(got, []int{2, 0, 1}) {
		t.Error("Suf", got)
	}
	if got := impl.RankOf("aba"); !slices.Equal(got, []int{1, 2, 0}) {
		t.Error("RankOf", got)
	}
	if got := impl.Lcp("aba"); !slices.Equal(got, []int{0, 1, 0}) {
		t.Error("Lcp", got)
	}
	if got := impl.RotBySuf("abab"); !slices.Equal(got, []int{2, 0, 3, 1}) {
		t.Error("RotBySuf", got)
	}
	if last, first := impl.LastBySuf("abab"); last != "bbaa" || first != 1 {
		t.Error("LastBySuf", last, first)
	}
}

// TestSuffixesByHand has suffixes that were sorted on paper.
func TestSuffixesByHand(t *testing.T) {
	for _, c := range []struct {
		s       string
		starts  []int
		ranks   []int
		lengths []int
	}{
		{"a", []int{0}, []int{0}, []int{0}},
		{"\x00", []int{0}, []int{0}, []int{0}},
		{"\xff", []int{0}, []int{0}, []int{0}},
		// A suffix that is the beginning of another one precedes it.
		{"aa", []int{1, 0}, []int{1, 0}, []int{0, 1}},
		{"aaaa", []int{3, 2, 1, 0}, []int{3, 2, 1, 0}, []int{0, 1, 2, 3}},
		{"\x00\x00\x00", []int{2, 1, 0}, []int{2, 1, 0}, []int{0, 1, 2}},
		{"\xff\xff\xff", []int{2, 1, 0}, []int{2, 1, 0}, []int{0, 1, 2}},
		{"abab", []int{2, 0, 3, 1}, []int{1, 3, 0, 2}, []int{0, 2, 0, 1}},
		{"ab", []int{0, 1}, []int{0, 1}, []int{0, 0}},
		{"ba", []int{1, 0}, []int{1, 0}, []int{0, 0}},
		{"baa", []int{2, 1, 0}, []int{2, 1, 0}, []int{0, 1, 0}},
		{"aab", []int{0, 1, 2}, []int{0, 1, 2}, []int{0, 1, 0}},
		{"banana", []int{5, 3, 1, 0, 4, 2}, []int{3, 2, 5, 1, 4, 0}, []int{0, 1, 3, 0, 0, 2}},
		{"mississippi", []int{10, 7, 4, 1, 0, 9, 8, 6, 3, 5, 2}, []int{4, 3, 10, 8, 2, 9, 7, 1, 6, 5, 0}, []int{0, 1, 1, 4, 0, 0, 1, 0, 2, 1, 3}},
		// Not even a byte 0 is less than the end of a suffix, and 255 is the greatest one.
		{"a\x00a", []int{1, 2, 0}, []int{2, 0, 1}, []int{0, 0, 1}},
		{"a\x00", []int{1, 0}, []int{1, 0}, []int{0, 0}},
		{"\x00\xff", []int{0, 1}, []int{0, 1}, []int{0, 0}},
		{"\xff\x00", []int{1, 0}, []int{1, 0}, []int{0, 0}},
		{"\x80\x7f", []int{1, 0}, []int{1, 0}, []int{0, 0}},
		{"\xffa\xff", []int{1, 2, 0}, []int{2, 0, 1}, []int{0, 0, 1}},
		// The bytes of a longer character are compared one by one.
		{"\u00e9e", []int{2, 1, 0}, []int{2, 1, 0}, []int{0, 0, 0}},
		{"\u00e9\u00e8", []int{3, 1, 2, 0}, []int{3, 1, 2, 0}, []int{0, 0, 0, 1}},
	} {
		if got := impl.Suf(c.s); !slices.Equal(got, c.starts) {
			t.Errorf("%q: the suffixes %v, not %v", c.s, got, c.starts)
		}
		if got := impl.RankOf(c.s); !slices.Equal(got, c.ranks) {
			t.Errorf("%q: the ranks %v, not %v", c.s, got, c.ranks)
		}
		if got := impl.Lcp(c.s); !slices.Equal(got, c.lengths) {
			t.Errorf("%q: the lengths %v, not %v", c.s, got, c.lengths)
		}
	}
}

// TestRotBySufByHand has rotations that were sorted on paper. The order of the suffixes of the string itself would be another one for some.
func TestRotBySufByHand(t *testing.T) {
	for _, c := range []struct {
		s     string
		order []int
		last  string
		first int
	}{
		{"a", []int{0}, "a", 0},
		{"\x00", []int{0}, "\x00", 0},
		{"\xff", []int{0}, "\xff", 0},
		{"aa", []int{1, 0}, "aa", 1},
		{"aaaa", []int{3, 2, 1, 0}, "aaaa", 3},
		{"ab", []int{0, 1}, "ba", 0},
		{"ba", []int{1, 0}, "ba", 1},
		{"baa", []int{1, 2, 0}, "baa", 2},
		{"abcab", []int{3, 0, 4, 1, 2}, "cbaab", 1},
		{"baba", []int{3, 1, 2, 0}, "bbaa", 3},
		{"abcabc", []int{3, 0, 4, 1, 5, 2}, "ccaabb", 1},
		{"abaaba", []int{5, 2, 3, 0, 4, 1}, "bbaaaa", 3},
		{"banana", []int{5, 3, 1, 0, 4, 2}, "nnbaaa", 3},
		{"cbacba", []int{5, 2, 4, 1, 3, 0}, "bbccaa", 5},
		{"\x00\xff\x00", []int{2, 0, 1}, "\xff\x00\x00", 1},
		{"\xff\x00\x00", []int{1, 2, 0}, "\xff\x00\x00", 2},
		{"\x80\x7f", []int{1, 0}, "\x80\x7f", 1},
	} {
		if got := impl.RotBySuf(c.s); !slices.Equal(got, c.order) {
			t.Errorf("%q: %v, not %v", c.s, got, c.order)
		}
		if last, first := impl.LastBySuf(c.s); last != c.last || first != c.first {
			t.Errorf("%q: %q and %d, not %q and %d", c.s, last, first, c.last, c.first)
		}
	}
}

// TestSuffixAllStrings has every string within small limits.
func TestSuffixAllStrings(t *testing.T) {
	for _, c := range []struct {
		symbols string
		most    int
	}{{"a", 140}, {"ab", 11}, {"\x00\xff", 10}, {"\x7f\x80", 8}, {"abc", 7}, {"a\x00\xff\x80", 5}, {"abcdef", 4}} {
		for n := 1; n <= c.most; n++ {
			for _, s := range allStrings(c.symbols, n) {
				hasSuffixes(t, s)
				rotatesBySuf(t, s)
				if got, want := impl.Suf(s), sufOf(s); !slices.Equal(got, want) {
					t.Fatalf("%q: %v, not %v", s, got, want)
				}
			}
		}
	}
}

// TestSuffixBytes has all strings of two bytes, and of one byte with others around it.
func TestSuffixBytes(t *testing.T) {
	for a := range 256 {
		for b := range 256 {
			x, y := string([]byte{byte(a)}), string([]byte{byte(b)})
			want := []int{0, 1}
			if a >= b {
				want = []int{1, 0}
			}
			if got := impl.Suf(x + y); !slices.Equal(got, want) {
				t.Fatalf("%q: %v", x+y, got)
			}
			if got := impl.RotBySuf(x + y); !slices.Equal(got, want) {
				t.Fatalf("%q: the rotations %v", x+y, got)
			}
			if b%16 < 2 || b%16 == 15 {
				hasSuffixes(t, x+y+x)
				rotatesBySuf(t, x+y+x)
			}
		}
	}
}

func TestSuffixStrings(t *testing.T) {
	for _, s := range rotatedStrings() {
		hasSuffixes(t, s)
		hasSuffixes(t, s+s)
		rotatesBySuf(t, s)
	}
}

// TestSuffixReferences has long strings with the references that count what is ahead.
func TestSuffixReferences(t *testing.T) {
	source := rand.New(rand.NewSource(111))
	for _, n := range []int{impl.MaxBlock - 1, impl.MaxBlock} {
		for _, s := range []string{strings.Repeat("a", n), fibonacciText(n), someBytes(n), fewBytes(source, n, 2), strings.Repeat("ab", n)[:n], strings.Repeat("\xff\x00\x00", n)[:n]} {
			if got, want := impl.Suf(s), sufOf(s); !slices.Equal(got, want) {
				t.Errorf("%d bytes %.40q: %v, not %v", n, s, start(got), start(want))
			}
			if got, want := impl.RotBySuf(s), rotationsOf(s); !slices.Equal(got, want) {
				t.Errorf("%d bytes %.40q: the rotations %v, not %v", n, s, start(got), start(want))
			}
			last, first := lastOf(s)
			if got, at := impl.LastBySuf(s); got != last || at != first {
				t.Errorf("%d bytes %.40q: %.40q and %d, not %.40q and %d", n, s, got, at, last, first)
			}
		}
	}
	s := fewBytes(source, mostSuffixes, 2)
	if got, want := impl.Suf(s), sufOf(s); !slices.Equal(got, want) {
		t.Errorf("%d bytes %.40q: %v, not %v", len(s), s, start(got), start(want))
	}
}

// TestSuffixLongest has strings of 2 * MaxBlock bytes, of one less, and around MaxBlock.
func TestSuffixLongest(t *testing.T) {
	source := rand.New(rand.NewSource(1200))
	for _, n := range []int{impl.MaxBlock - 1, impl.MaxBlock, impl.MaxBlock + 1, mostSuffixes - 1, mostSuffixes} {
		list := append(likeRotations(n), someBytes(n))
		if n%impl.MaxBlock == 0 {
			list = append(list, repeats(n)...)
		}
		for _, size := range []int{2, 3, 26} {
			list = append(list, fewBytes(source, n, size))
		}
		for _, s := range list {
			hasSuffixes(t, s)
			if n <= impl.MaxBlock {
				rotatesBySuf(t, s)
			}
		}
	}
}

// TestSuffixSizes has strings of each length, so that there are some of each kind on both sides of any length from which halves are sorted by themselves.
func TestSuffixSizes(t *testing.T) {
	source := rand.New(rand.NewSource(101))
	for n := 1; n <= mostSuffixes; n++ {
		hasSuffixes(t, someBytes(n))
		hasSuffixes(t, fewBytes(source, n, 2))
		if n <= 150 || n%20 < 2 {
			hasSuffixes(t, strings.Repeat("a", n))
			hasSuffixes(t, strings.Repeat("b", n-1)+"a")
			hasSuffixes(t, fibonacciText(n))
		}
	}
}

func TestRotBySufSizes(t *testing.T) {
	source := rand.New(rand.NewSource(102))
	for n := 1; n <= impl.MaxBlock; n++ {
		list := []string{fewBytes(source, n, 3)}
		if n < 150 || n%10 < 2 {
			list = append(list, someBytes(n), strings.Repeat("b", n-1)+"a")
		}
		if n < 40 || n%60 == 0 {
			list = append(list, repeats(n)...)
		}
		for _, s := range list {
			rotatesBySuf(t, s)
		}
	}
}

// TestSuffixHalves has halves that belong behind or between each other, at lengths that halve with and without a rest.
func TestSuffixHalves(t *testing.T) {
	for _, n := range []int{2, 3, 30, 31, 62, 63, 64, 65, 66, 100, 127, 128, 129, 200, 255, 256, 257, 511, 512, 513, impl.MaxBlock, impl.MaxBlock + 1, 1023, 1024, 1025, mostSuffixes - 1, mostSuffixes} {
		half := n / 2
		for _, s := range []string{
			strings.Repeat("a", half) + strings.Repeat("b", n-half),
			strings.Repeat("b", half) + strings.Repeat("a", n-half),
			strings.Repeat("a", half) + someBytes(n-half),
			someBytes(half) + strings.Repeat("\xff", n-half),
			someBytes(n - half)[:half] + someBytes(n-half),
			strings.Repeat("a", half-1) + "b" + strings.Repeat("a", n-half),
			strings.Repeat("a", half) + "b" + strings.Repeat("a", n-half-1),
			fibonacciText(half) + reversedBytes(fibonacciText(n-half)),
			reversedBytes(fibonacciText(n)),
		} {
			hasSuffixes(t, s)
			if n <= impl.MaxBlock {
				rotatesBySuf(t, s)
			}
		}
	}
}

// TestSuffixParts counts different substrings: each suffix adds those of its beginnings that the one ahead of it does not have.
func TestSuffixParts(t *testing.T) {
	source := rand.New(rand.NewSource(103))
	list := []string{"a", "aa", "ab", "aba", "banana", "mississippi", fibonacciText(100), strings.Repeat("a", 100), strings.Repeat("\x00\xff", 60), someBytes(90), everyByte()}
	for range 60 {
		list = append(list, fewBytes(source, 1+source.Intn(120), 1+source.Intn(3)))
	}
	for _, s := range list {
		parts := len(s) * (len(s) + 1) / 2
		for _, length := range impl.Lcp(s) {
			parts -= length
		}
		if want := differentParts(s); parts != want {
			t.Errorf("%d bytes %.40q: %d parts, not %d", len(s), s, parts, want)
		}
	}
}

// TestSuffixOneByte repeats one byte: what begins later is shorter, and ahead.
func TestSuffixOneByte(t *testing.T) {
	for _, b := range []string{"a", "\x00", "\xff", "\x80"} {
		for _, n := range []int{1, 2, 3, 31, 32, 63, 64, 65, 127, 128, 129, impl.MaxBlock - 1, impl.MaxBlock, impl.MaxBlock + 1, mostSuffixes - 1, mostSuffixes} {
			s := strings.Repeat(b, n)
			down := descendingFrom(n)
			if got := impl.Suf(s); !slices.Equal(got, down) {
				t.Errorf("%d times %q: %v", n, b, start(got))
			}
			if got := impl.RankOf(s); !slices.Equal(got, down) {
				t.Errorf("%d times %q: the ranks %v", n, b, start(got))
			}
			if got := impl.Lcp(s); !slices.Equal(got, ascendingTo(n)) {
				t.Errorf("%d times %q: the lengths %v", n, b, start(got))
			}
			if n > impl.MaxBlock {
				continue
			}
			if got := impl.RotBySuf(s); !slices.Equal(got, down) {
				t.Errorf("%d times %q: the rotations %v", n, b, start(got))
			}
			if last, first := impl.LastBySuf(s); last != s || first != n-1 {
				t.Errorf("%d times %q: %.40q and %d", n, b, last, first)
			}
		}
	}
}

// TestSuffixPeriods repeats strings without a shorter period. Equal rotations are then in descending order.
func TestSuffixPeriods(t *testing.T) {
	for _, part := range []string{"ab", "ba", "aab", "aba", "abc", "ababa", "\x00\xff", "\xff\xff\x00", fibonacciText(21), everyByte(), someBytes(300)} {
		for times := 1; times*len(part) <= impl.MaxBlock; times++ {
			if times > 20 && times%17 != 0 && (times+1)*len(part) <= impl.MaxBlock {
				continue
			}
			s := strings.Repeat(part, times)
			hasSuffixes(t, s)
			hasSuffixes(t, s+s)
			var order []int
			repeated := ""
			last, first := lastOf(part)
			for place, i := range rotationsOf(part) {
				for k := times - 1; k >= 0; k-- {
					order = append(order, i+k*len(part))
				}
				repeated += strings.Repeat(last[place:place+1], times)
			}
			if got := impl.RotBySuf(s); !slices.Equal(got, order) {
				t.Errorf("%d times %.40q: %v, not %v", times, part, start(got), start(order))
			}
			if got, place := impl.LastBySuf(s); got != repeated || place != first*times+times-1 {
				t.Errorf("%d times %.40q: %.40q and %d", times, part, got, place)
			}
		}
	}
}

// TestLastBySufUnrotates takes the string back from the transform by suffixes.
func TestLastBySufUnrotates(t *testing.T) {
	source := rand.New(rand.NewSource(104))
	list := append(rotatedStrings(), strings.Repeat("a", impl.MaxBlock), fibonacciText(impl.MaxBlock), someBytes(impl.MaxBlock), strings.Repeat("ab", 300))
	for range 200 {
		list = append(list, fewBytes(source, 1+source.Intn(impl.MaxBlock), 1+source.Intn(5)))
	}
	for _, s := range list {
		last, first := impl.LastBySuf(s)
		unrotates(t, last, first, s)
	}
}

func refusesSuffixes(t *testing.T, s string) {
	t.Helper()
	if got := impl.Suf(s); len(got) != 0 {
		t.Errorf("%d bytes: %d suffixes", len(s), len(got))
	}
	if got := impl.RankOf(s); len(got) != 0 {
		t.Errorf("%d bytes: %d ranks", len(s), len(got))
	}
	if got := impl.Lcp(s); len(got) != 0 {
		t.Errorf("%d bytes: %d lengths", len(s), len(got))
	}
}

func refusesRotations(t *testing.T, s string) {
	t.Helper()
	if got := impl.RotBySuf(s); len(got) != 0 {
		t.Errorf("%d bytes: %d rotations", len(s), len(got))
	}
	if last, first := impl.LastBySuf(s); last != "" || first != -1 {
		t.Errorf("%d bytes: %.40q and %d", len(s), last, first)
	}
}

// TestSuffixRefuses has strings that are too long for rotations, of which those up to twice MaxBlock have suffixes.
func TestSuffixRefuses(t *testing.T) {
	refusesSuffixes(t, "")
	refusesRotations(t, "")
	for _, s := range longerStrings() {
		refusesRotations(t, s)
		if len(s) > mostSuffixes {
			refusesSuffixes(t, s)
		} else {
			hasSuffixes(t, s)
		}
	}
	for _, n := range []int{mostSuffixes + 1, mostSuffixes + 2, 2*mostSuffixes - 1, 2 * mostSuffixes, 1 << 20} {
		refusesSuffixes(t, strings.Repeat("\x00", n))
		refusesSuffixes(t, someText(n))
	}
}

// TestSuffixKeepsNothing spoils results with what lies behind them, and repeats the calls with others in between.
func TestSuffixKeepsNothing(t *testing.T) {
	for _, s := range []string{"a", "aa", "aba", "banana", "abab", fibonacciText(63), fibonacciText(64), someBytes(impl.MaxBlock), strings.Repeat("ab", 300)} {
		starts, order := sufOf(s), rotationsOf(s)
		last, first := lastOf(s)
		for range 3 {
			results := [][]int{impl.Suf(s), impl.RankOf(s), impl.Lcp(s), impl.RotBySuf(s)}
			if !slices.Equal(results[0], starts) || !slices.Equal(results[3], order) {
				t.Fatalf("%d bytes %.40q: %v and %v", len(s), s, start(results[0]), start(results[3]))
			}
			if got, place := impl.LastBySuf(s); got != last || place != first {
				t.Fatalf("%d bytes %.40q: %.40q and %d", len(s), s, got, place)
			}
			for _, result := range results {
				full := result[:cap(result)]
				for i := range full {
					full[i] = -9
				}
			}
			hasSuffixes(t, s)
			impl.Suf("cab" + s[:len(s)/2])
			impl.RotBySuf(reversedBytes(s))
		}
	}
}

// TestSuffixTogether makes many calls at once. No goroutine may remain when they have returned.
func TestSuffixTogether(t *testing.T) {
	before := runtime.NumGoroutine()
	source := rand.New(rand.NewSource(105))
	var list []string
	for i := range 60 {
		list = append(list, fewBytes(source, 1+source.Intn(impl.MaxBlock), 1+i%4))
	}
	starts, orders := make([][]int, len(list)), make([][]int, len(list))
	for round := range 3 {
		var all sync.WaitGroup
		for i, s := range list {
			all.Add(1)
			go func() {
				defer all.Done()
				starts[i], orders[i] = impl.Suf(s+s), impl.RotBySuf(s)
			}()
		}
		all.Wait()
		for i, s := range list {
			if !slices.Equal(starts[i], impl.Suf(s+s)) || !slices.Equal(orders[i], impl.Rotations(s)) {
				t.Errorf("round %d: %d bytes %.40q: %v and %v", round, len(s), s, start(starts[i]), start(orders[i]))
			}
		}
	}
	for range 1000 {
		if runtime.NumGoroutine() <= before {
			return
		}
		time.Sleep(time.Millisecond)
	}
	t.Errorf("%d goroutines, and %d before", runtime.NumGoroutine(), before)
}
