package tests

import (
	"math"
	"math/rand"
	"slices"
	"strings"
	"testing"

	"loop.example/g00674/impl"
)

func rotationOf(s string, i int) string {
	return s[i:] + s[:i]
}

// rotationsOf puts each rotation behind those that must be ahead of it, without sorting.
func rotationsOf(s string) []int {
	rotations := make([]string, len(s))
	for i := range rotations {
		rotations[i] = rotationOf(s, i)
	}
	order := make([]int, len(s))
	for i, b := range rotations {
		ahead := 0
		for j, a := range rotations {
			if a < b || a == b && j > i {
				ahead++
			}
		}
		order[ahead] = i
	}
	return order
}

// lastOf takes the last bytes from the rotations themselves.
func lastOf(s string) (string, int) {
	var last strings.Builder
	first := -1
	for place, i := range rotationsOf(s) {
		rotation := rotationOf(s, i)
		last.WriteString(rotation[len(rotation)-1:])
		if i == 0 {
			first = place
		}
	}
	return last.String(), first
}

func periodOf(s string) int {
	for p := 1; p < len(s); p++ {
		if rotationOf(s, p) == s {
			return p
		}
	}
	return len(s)
}

func lfOf(last string) []int {
	l := make([]int, len(last))
	for i := range len(last) {
		for j := range len(last) {
			if last[j] < last[i] || j < i && last[j] == last[i] {
				l[i]++
			}
		}
	}
	return l
}

// unrotateOf has no candidate but the one that lfOf leads to.
func unrotateOf(last string, first int) (string, bool) {
	if first < 0 || first >= len(last) {
		return "", false
	}
	l, candidate, at := lfOf(last), "", first
	for range len(last) {
		candidate, at = last[at:at+1]+candidate, l[at]
	}
	if got, place := lastOf(candidate); got != last || place != first {
		return "", false
	}
	return candidate, true
}

// allStrings are all strings of n of these bytes.
func allStrings(symbols string, n int) []string {
	list := []string{""}
	for range n {
		var longer []string
		for _, s := range list {
			for i := range len(symbols) {
				longer = append(longer, s+symbols[i:i+1])
			}
		}
		list = longer
	}
	return list
}

// fewBytes has n bytes, of only the first size ones from a.
func fewBytes(source *rand.Rand, n int, size int) string {
	s := make([]byte, n)
	for i := range s {
		s[i] = 'a' + byte(source.Intn(size))
	}
	return string(s)
}

// fibonacciText has n bytes, in which long parts occur again and again, but at no fixed distance.
func fibonacciText(n int) string {
	a, b := "b", "a"
	for len(b) < n {
		a, b = b, b+a
	}
	return b[:n]
}

// likeRotations are strings of n bytes whose rotations are equal, or differ late or in the sign of a byte alone.
func likeRotations(n int) []string {
	list := []string{strings.Repeat("a", n), strings.Repeat("\x00", n), strings.Repeat("\xff", n), fibonacciText(n),
		strings.Repeat("a", n-1) + "b", "b" + strings.Repeat("a", n-1), strings.Repeat("b", n-1) + "a", "a" + strings.Repeat("b", n-1),
		strings.Repeat("\x00", n-1) + "\xff", strings.Repeat("\xff", n-1) + "\x00", strings.Repeat("\x7f", n/2) + strings.Repeat("\x80", n-n/2)}
	for _, part := range []string{"ab", "ba", "aab", "\x00\xff", "\xff\x00\x00", "abcab", "\x7f\x80", someBytes(7), someBytes(60)} {
		s := strings.Repeat(part, n/len(part)+1)[:n]
		list = append(list, s, s[:n-1]+"\x00", s[:n-1]+"\xff", s[:n/2]+"a"+s[n/2+1:])
	}
	return list
}

// rotatedStrings are short ones, and long ones of many kinds up to MaxBlock bytes.
func rotatedStrings() []string {
	source := rand.New(rand.NewSource(10))
	var list []string
	for _, s := range someStrings() {
		if s != "" && len(s) <= impl.MaxBlock {
			list = append(list, s)
		}
	}
	list = append(list, everyByte(), reversedBytes(everyByte()), shuffledBytes(source, everyByte()), everyByte()+everyByte(), everyByte()+reversedBytes(everyByte()))
	for _, n := range []int{1, 2, 3, 4, 5, 8, 12, 13, 60, 61, 255, 256, 257} {
		list = append(list, likeRotations(n)...)
		for _, size := range []int{2, 3, 26} {
			list = append(list, fewBytes(source, n, size))
		}
	}
	return list
}

// repeats are strings of n bytes that repeat each of the parts that n is a multiple of.
func repeats(n int) []string {
	source := rand.New(rand.NewSource(int64(n)))
	var list []string
	for p := 1; p <= n; p++ {
		if n%p == 0 {
			list = append(list, strings.Repeat(fewBytes(source, p, 2), n/p), strings.Repeat(strings.Repeat("a", p-1)+"b", n/p), strings.Repeat("b"+strings.Repeat("a", p-1), n/p), strings.Repeat(someBytes(p), n/p))
		}
	}
	return list
}

// rotates requires what all functions return for s, and that s comes back.
func rotates(t *testing.T, s string) {
	t.Helper()
	last, first := lastOf(s)
	rotatesTo(t, s, rotationsOf(s), last, first)
}

func rotatesTo(t *testing.T, s string, order []int, last string, first int) {
	t.Helper()
	if got := impl.Rotations(s); !slices.Equal(got, order) {
		t.Fatalf("%d bytes %.40q: the rotations %v, not %v", len(s), s, start(got), start(order))
	}
	if got, place := impl.Last(s); got != last || place != first {
		t.Fatalf("%d bytes %.40q: %.40q and %d, not %.40q and %d", len(s), s, got, place, last, first)
	}
	if got, want := impl.Period(s), periodOf(s); got != want {
		t.Fatalf("%d bytes %.40q: the period %d, not %d", len(s), s, got, want)
	}
	unrotates(t, last, first, s)
}

func unrotates(t *testing.T, last string, first int, s string) {
	t.Helper()
	if got, ok := impl.Unrotate(last, first); !ok || got != s {
		t.Fatalf("%d bytes %.40q at %d: %.40q, %v, not %.40q", len(last), last, first, got, ok, s)
	}
}

func refusedUnrotate(t *testing.T, last string, first int) {
	t.Helper()
	if got, ok := impl.Unrotate(last, first); ok || got != "" {
		t.Fatalf("%d bytes %.40q at %d: %.40q, %v", len(last), last, first, got, ok)
	}
}

func mapsLf(t *testing.T, last string) {
	t.Helper()
	if got, want := impl.Lf(last), lfOf(last); !slices.Equal(got, want) {
		t.Fatalf("%d bytes %.40q: %v, not %v", len(last), last, start(got), start(want))
	}
}

// noPlaces are no positions in a list of n.
func noPlaces(n int) []int {
	return []int{-1, -2, -n, n, n + 1, 2 * n, impl.MaxBlock, impl.MaxBlock + 1, math.MinInt, math.MinInt + 1, math.MaxInt, math.MaxInt - 1, 1 << 32, 1 << 62, n - 1 + 1<<32, n - 1 - 1<<32, -1 << 32}
}

func TestRotateExamples(t *testing.T) {
	if got := impl.Rotations("abcab"); !slices.Equal(got, []int{3, 0, 4, 1, 2}) {
		t.Error("Rotations", got)
	}
	if last, first := impl.Last("abcab"); last != "cbaab" || first != 1 {
		t.Error("Last", last, first)
	}
	if got := impl.Lf("cbaab"); !slices.Equal(got, []int{4, 2, 0, 1, 3}) {
		t.Error("Lf", got)
	}
	unrotates(t, "cbaab", 1, "abcab")
}

// TestRotateByHand has rotations that were sorted on paper.
func TestRotateByHand(t *testing.T) {
	for _, c := range []struct {
		s      string
		order  []int
		last   string
		first  int
		period int
		lf     []int
	}{
		{"a", []int{0}, "a", 0, 1, []int{0}},
		{"\x00", []int{0}, "\x00", 0, 1, []int{0}},
		{"\xff", []int{0}, "\xff", 0, 1, []int{0}},
		{"aa", []int{1, 0}, "aa", 1, 1, []int{0, 1}},
		{"aaaa", []int{3, 2, 1, 0}, "aaaa", 3, 1, []int{0, 1, 2, 3}},
		{"ab", []int{0, 1}, "ba", 0, 2, []int{1, 0}},
		{"ba", []int{1, 0}, "ba", 1, 2, []int{1, 0}},
		{"abab", []int{2, 0, 3, 1}, "bbaa", 1, 2, []int{2, 3, 0, 1}},
		{"baba", []int{3, 1, 2, 0}, "bbaa", 3, 2, []int{2, 3, 0, 1}},
		{"abcabc", []int{3, 0, 4, 1, 5, 2}, "ccaabb", 1, 3, []int{4, 5, 0, 1, 2, 3}},
		{"abaaba", []int{5, 2, 3, 0, 4, 1}, "bbaaaa", 3, 3, []int{4, 5, 0, 1, 2, 3}},
		{"banana", []int{5, 3, 1, 0, 4, 2}, "nnbaaa", 3, 6, []int{4, 5, 3, 0, 1, 2}},
		{"mississippi", []int{10, 7, 4, 1, 0, 9, 8, 6, 3, 5, 2}, "pssmipissii", 4, 11, []int{5, 7, 8, 4, 0, 6, 1, 9, 10, 2, 3}},
		// Where bytes had signs, or a rotation ended with the string, the order would be another one.
		{"\x00\xff", []int{0, 1}, "\xff\x00", 0, 2, []int{1, 0}},
		{"\xff\x00", []int{1, 0}, "\xff\x00", 1, 2, []int{1, 0}},
		{"\x80\x7f", []int{1, 0}, "\x80\x7f", 1, 2, []int{1, 0}},
		{"\x00\x00\xff", []int{0, 1, 2}, "\xff\x00\x00", 0, 3, []int{2, 0, 1}},
		{"aab", []int{0, 1, 2}, "baa", 0, 3, []int{2, 0, 1}},
		{"aba", []int{2, 0, 1}, "baa", 1, 3, []int{2, 0, 1}},
		{"baa", []int{1, 2, 0}, "baa", 2, 3, []int{2, 0, 1}},
	} {
		rotatesTo(t, c.s, c.order, c.last, c.first)
		if got := impl.Period(c.s); got != c.period {
			t.Errorf("%q: the period %d", c.s, got)
		}
		if got := impl.Lf(c.last); !slices.Equal(got, c.lf) {
			t.Errorf("%q: %v, not %v", c.last, got, c.lf)
		}
	}
}

// TestRotateAllStrings has every string within small limits. A transform with a position belongs to one string, and what belongs to none is refused.
func TestRotateAllStrings(t *testing.T) {
	for _, c := range []struct {
		symbols string
		most    int
	}{{"a", 40}, {"ab", 11}, {"\x00\xff", 10}, {"\x7f\x80", 8}, {"abc", 7}, {"a\x00\xff\x80", 5}, {"abcdef", 4}} {
		for n := 1; n <= c.most; n++ {
			type pair struct {
				last  string
				first int
			}
			texts := map[pair]string{}
			list := allStrings(c.symbols, n)
			for _, s := range list {
				last, first := lastOf(s)
				rotates(t, s)
				mapsLf(t, s)
				texts[pair{last, first}] = s
			}
			if len(texts) != len(list) {
				t.Errorf("%d strings have %d transforms", len(list), len(texts))
			}
			for _, last := range list {
				for first := -2; first < n+2; first++ {
					if s, is := texts[pair{last, first}]; is {
						unrotates(t, last, first, s)
					} else {
						refusedUnrotate(t, last, first)
					}
				}
			}
		}
	}
}

func TestRotateStrings(t *testing.T) {
	for _, s := range rotatedStrings() {
		rotates(t, s)
		mapsLf(t, s)
	}
}

// TestRotateLongest has strings of MaxBlock bytes and of one less.
func TestRotateLongest(t *testing.T) {
	source := rand.New(rand.NewSource(600))
	list := append(likeRotations(impl.MaxBlock), likeRotations(impl.MaxBlock - 1)[:8]...)
	list = append(list, repeats(impl.MaxBlock)...)
	for _, size := range []int{2, 3, 26} {
		list = append(list, fewBytes(source, impl.MaxBlock, size))
	}
	for _, s := range list {
		rotates(t, s)
		last, _ := lastOf(s)
		mapsLf(t, last)
	}
}

// sortedRotations requires each rotation once, and each next one to be greater, or equal with a smaller starting index.
func sortedRotations(t *testing.T, s string, order []int) {
	t.Helper()
	indices := slices.Clone(order)
	slices.Sort(indices)
	if !slices.Equal(indices, ascendingTo(len(s))) {
		t.Fatalf("%d bytes %.40q: not each rotation once: %v", len(s), s, order)
	}
	for place := 1; place < len(order); place++ {
		before, behind := order[place-1], order[place]
		a, b := rotationOf(s, before), rotationOf(s, behind)
		if a > b || a == b && before < behind {
			t.Fatalf("%d bytes %.40q: the rotation at %d is ahead of that at %d", len(s), s, before, behind)
		}
	}
}

// TestRotateSizes has strings of each length, some of which repeat a shorter one.
func TestRotateSizes(t *testing.T) {
	source := rand.New(rand.NewSource(100))
	for n := 1; n <= impl.MaxBlock; n++ {
		list := []string{someBytes(n), fewBytes(source, n, 3), strings.Repeat("b", n-1) + "a"}
		if n%7 == 0 {
			list = append(list, repeats(n)...)
		}
		for _, s := range list {
			order := impl.Rotations(s)
			sortedRotations(t, s, order)
			last, first := impl.Last(s)
			if len(last) != n || first < 0 || first >= n || order[first] != 0 {
				t.Fatalf("%d bytes %.40q: %d bytes, and %d", n, s, len(last), first)
			}
			for place, from := range order {
				if last[place] != s[(from+n-1)%n] {
					t.Fatalf("%d bytes %.40q: %q at %d", n, s, last[place], place)
				}
			}
			if got, want := impl.Period(s), periodOf(s); got != want {
				t.Fatalf("%d bytes %.40q: the period %d, not %d", n, s, got, want)
			}
			unrotates(t, last, first, s)
		}
	}
}

// TestPeriods repeats strings without a shorter period. Equal rotations are then in descending order, one period from each other.
func TestPeriods(t *testing.T) {
	for _, part := range []string{"a", "ab", "ba", "aab", "aba", "abc", "abab" + "a", "\x00\xff", "\xff\xff\x00", fibonacciText(21), everyByte(), someBytes(300)} {
		for times := 1; times*len(part) <= impl.MaxBlock; times++ {
			if times > 20 && times%17 != 0 && (times+1)*len(part) <= impl.MaxBlock {
				continue
			}
			s := strings.Repeat(part, times)
			if got := impl.Period(s); got != len(part) {
				t.Errorf("%d times %.40q: the period %d", times, part, got)
			}
			var order []int
			for _, i := range rotationsOf(part) {
				for k := times - 1; k >= 0; k-- {
					order = append(order, i+k*len(part))
				}
			}
			if got := impl.Rotations(s); !slices.Equal(got, order) {
				t.Errorf("%d times %.40q: %v, not %v", times, part, start(got), start(order))
			}
			last, first := lastOf(part)
			repeated := ""
			for i := range len(last) {
				repeated += strings.Repeat(last[i:i+1], times)
			}
			if got, place := impl.Last(s); got != repeated || place != first*times+times-1 {
				t.Errorf("%d times %.40q: %.40q and %d", times, part, got, place)
			}
			// One byte more makes it another string, whose length is its only period.
			if longer := s + "\x01"; len(longer) <= impl.MaxBlock && impl.Period(longer) != len(longer) {
				t.Errorf("%d times %.40q and a byte: the period %d", times, part, impl.Period(longer))
			}
		}
	}
	// What ends as it begins has no period by that alone.
	for _, s := range []string{"aba", "abcab", "aaaab" + "aaaa", "ababa", "abaab"} {
		if got := impl.Period(s); got != len(s) {
			t.Errorf("%q: the period %d", s, got)
		}
	}
}

// TestLfSteps follows Lf in the transform of s: each step leads to a rotation that begins one byte earlier.
func TestLfSteps(t *testing.T) {
	for _, s := range rotatedStrings() {
		order := rotationsOf(s)
		last, _ := lastOf(s)
		got := impl.Lf(last)
		places := slices.Clone(got)
		slices.Sort(places)
		if !slices.Equal(places, ascendingTo(len(s))) {
			t.Fatalf("%d bytes %.40q: not each place once: %v", len(s), s, start(got))
		}
		for place, from := range order {
			earlier := (from + len(s) - 1) % len(s)
			if rotationOf(s, order[got[place]]) != rotationOf(s, earlier) {
				t.Fatalf("%d bytes %.40q: from the rotation at %d to that at %d", len(s), s, from, order[got[place]])
			}
		}
	}
}

// TestLfAnyString has strings that are no transforms, of which some have a byte above all others alone.
func TestLfAnyString(t *testing.T) {
	source := rand.New(rand.NewSource(11))
	for range 300 {
		s := someBytes(1 + source.Intn(100))
		mapsLf(t, s)
		mapsLf(t, fewBytes(source, len(s), 1+source.Intn(4)))
		mapsLf(t, s+"\xff"+s+"\xff\x00")
	}
	for _, s := range append(likeRotations(impl.MaxBlock), everyByte(), reversedBytes(everyByte()), someBytes(impl.MaxBlock)) {
		mapsLf(t, s)
	}
}

// longerStrings have more than MaxBlock bytes.
func longerStrings() []string {
	var list []string
	for _, n := range []int{impl.MaxBlock + 1, impl.MaxBlock + 2, 2*impl.MaxBlock - 1, 2 * impl.MaxBlock, 2*impl.MaxBlock + 1, 5000, 100000} {
		list = append(list, strings.Repeat("a", n), someBytes(n), strings.Repeat("ab", n)[:n], strings.Repeat("\x00", n), fibonacciText(n))
	}
	return list
}

func TestRotateRefuses(t *testing.T) {
	for _, s := range append(longerStrings(), "") {
		if got := impl.Rotations(s); len(got) != 0 {
			t.Errorf("%d bytes: %d rotations", len(s), len(got))
		}
		if last, first := impl.Last(s); last != "" || first != -1 {
			t.Errorf("%d bytes: %.40q and %d", len(s), last, first)
		}
		if got := impl.Period(s); got != -1 {
			t.Errorf("%d bytes: the period %d", len(s), got)
		}
		if got := impl.Lf(s); len(got) != 0 {
			t.Errorf("%d bytes: %d places", len(s), len(got))
		}
		for _, first := range append(noPlaces(len(s)), 0, 1, len(s)-1, impl.MaxBlock-1) {
			refusedUnrotate(t, s, first)
		}
	}
	// The transforms of longer strings, with the positions that these have in them.
	for _, n := range []int{impl.MaxBlock + 1, impl.MaxBlock + 2} {
		for _, s := range []string{someBytes(n), strings.Repeat("a", n), fibonacciText(n)} {
			last, first := lastOf(s)
			refusedUnrotate(t, last, first)
		}
	}
}

// TestUnrotatePlaces has each position, and those that no string has.
func TestUnrotatePlaces(t *testing.T) {
	for _, s := range []string{"a", "aa", "ab", "aaa", "abab", "abcab", "banana", "mississippi", "\x00\xff\x00\xff", everyByte(), fibonacciText(89), strings.Repeat("abc", 30), strings.Repeat("a", 100)} {
		last, first := lastOf(s)
		period := periodOf(s)
		times := len(s) / period
		order := rotationsOf(s)
		for place := range len(s) {
			// A rotation of s has the same transform. Its own position is the last one of those that are equal to it.
			if place%times == times-1 {
				unrotates(t, last, place, rotationOf(s, order[place]))
			} else {
				refusedUnrotate(t, last, place)
			}
		}
		unrotates(t, last, first, s)
		for _, place := range noPlaces(len(s)) {
			if place < 0 || place >= len(s) {
				refusedUnrotate(t, last, place)
			}
		}
	}
	s := strings.Repeat(someBytes(200), 3)
	last, first := lastOf(s)
	unrotates(t, last, first, s)
	for _, place := range append(noPlaces(len(s)), first-1, first-2, first+1, first+2) {
		refusedUnrotate(t, last, place)
	}
}

// TestUnrotateNone has strings that are the transform of no string, with every position.
func TestUnrotateNone(t *testing.T) {
	for _, last := range []string{"ab", "aab", "abb", "abc", "acb", "aaab", "abab", "baab", "abba", "\x00\xff", "\x00\x01\x02", "cabbage", everyByte(),
		strings.Repeat("a", impl.MaxBlock-1) + "b", strings.Repeat("ab", 300), strings.Repeat("a", 300) + strings.Repeat("b", 300)} {
		for first := -1; first <= len(last); first++ {
			refusedUnrotate(t, last, first)
		}
	}
	// Repeated parts, in each of which a string would be a transform by itself.
	for _, last := range []string{"ba" + "ba", "bbaa" + "b", "cab" + "cab", "aa" + "bb", "ccaabb" + "c"} {
		for first := range len(last) {
			want, is := unrotateOf(last, first)
			if is {
				unrotates(t, last, first, want)
			} else {
				refusedUnrotate(t, last, first)
			}
		}
	}
}

// TestUnrotateMany takes bytes in any order, and transforms with two bytes exchanged or one replaced.
func TestUnrotateMany(t *testing.T) {
	source := rand.New(rand.NewSource(12))
	accepted, refused := 0, 0
	for round := range 12000 {
		n := 1 + source.Intn(9)
		if round%100 == 0 {
			n = 10 + source.Intn(40)
		}
		last := fewBytes(source, n, 1+source.Intn(4))
		if round%3 > 0 {
			last, _ = lastOf(last)
		}
		if b := []byte(last); round%3 == 1 {
			i, j := source.Intn(n), source.Intn(n)
			b[i], b[j] = b[j], b[i]
			if source.Intn(3) == 0 {
				b[i] = 'a' + byte(source.Intn(4))
			}
			last = string(b)
		}
		first := source.Intn(n)
		want, is := unrotateOf(last, first)
		if !is {
			refused++
			refusedUnrotate(t, last, first)
			continue
		}
		accepted++
		unrotates(t, last, first, want)
		if got, place := impl.Last(want); got != last || place != first {
			t.Fatalf("%q: %q and %d, not %q and %d", want, got, place, last, first)
		}
	}
	if accepted < 2000 || refused < 2000 {
		t.Errorf("%d are accepted and %d refused", accepted, refused)
	}
}

// TestUnrotateSpoilt changes one byte of a long transform.
func TestUnrotateSpoilt(t *testing.T) {
	for _, s := range []string{fibonacciText(233), someBytes(300), strings.Repeat("ab", 150), strings.Repeat("a", 200)} {
		last, first := lastOf(s)
		for place := 0; place < len(last); place += 1 + len(last)/12 {
			for _, b := range []byte{last[place] + 1, last[place] - 1, last[place] ^ 0x80, 0, 255} {
				spoilt := last[:place] + string([]byte{b}) + last[place+1:]
				if want, is := unrotateOf(spoilt, first); is {
					unrotates(t, spoilt, first, want)
				} else {
					refusedUnrotate(t, spoilt, first)
				}
			}
		}
	}
}

// TestRotateKeepsNothing spoils results with what lies behind them, and repeats the calls with others in between.
func TestRotateKeepsNothing(t *testing.T) {
	for _, s := range []string{"a", "aa", "abcab", "banana", "abab", fibonacciText(100), someBytes(impl.MaxBlock), strings.Repeat("ab", 300)} {
		order := rotationsOf(s)
		last, first := lastOf(s)
		lf := lfOf(last)
		for range 3 {
			gotOrder, gotLf := impl.Rotations(s), impl.Lf(last)
			if !slices.Equal(gotOrder, order) || !slices.Equal(gotLf, lf) {
				t.Fatalf("%d bytes %.40q: %v and %v", len(s), s, start(gotOrder), start(gotLf))
			}
			rotatesTo(t, s, order, last, first)
			for _, result := range [][]int{gotOrder, gotLf} {
				full := result[:cap(result)]
				for i := range full {
					full[i] = -9
				}
			}
			impl.Rotations("cab")
			impl.Lf("bca")
			impl.Unrotate("ab", 0)
		}
	}
}
